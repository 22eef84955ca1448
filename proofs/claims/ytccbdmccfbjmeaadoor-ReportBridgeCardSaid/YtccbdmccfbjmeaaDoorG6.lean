import Derived.Test.YtccbdmccfbjmeaaDoorG5
set_option linter.unusedSimpArgs false
set_option linter.unusedVariables false
section
/- A verified evaluator: a region that draws its order. -/
namespace Go.Proofs.YtccbdmccfbjmeaaDoor.Ev
open Go.RowKit

/-! What comes ahead of what, as bits. -/
def maskOf (acc : List Nat) (js : List Nat) : Nat := js.foldl (fun b j => b ||| (1 <<< j ||| acc.getD j 0)) 0
def ancs (ops : Array Oper) : Nat → List Nat
  | 0 => []
  | n + 1 => ancs ops n ++ [maskOf (ancs ops n) (afters ops n)]
theorem mask_bit {acc : List Nat} {k : Nat} : ∀ (js : List Nat) (b : Nat), (js.foldl (fun b j => b ||| (1 <<< j ||| acc.getD j 0)) b).testBit k = true → b.testBit k = true ∨ ∃ j ∈ js, k = j ∨ (acc.getD j 0).testBit k = true
  | [], b, h => .inl h
  | j :: js, b, h => by
    rcases mask_bit js _ h with q | ⟨i, hi, q⟩
    · rw [Nat.testBit_or, Nat.testBit_or, Bool.or_eq_true, Bool.or_eq_true] at q
      rcases q with q | q | q
      · exact .inl q
      · refine .inr ⟨j, List.mem_cons_self, .inl ?_⟩
        rw [Nat.shiftLeft_eq, Nat.one_mul, Nat.testBit_two_pow] at q
        exact (of_decide_eq_true q).symm
      · exact .inr ⟨j, List.mem_cons_self, .inr q⟩
    · exact .inr ⟨i, List.mem_cons_of_mem _ hi, q⟩
theorem ancs_len (ops : Array Oper) : ∀ n, (ancs ops n).length = n
  | 0 => rfl
  | n + 1 => by show (ancs ops n ++ [_]).length = _; rw [List.length_append, ancs_len ops n]; rfl
theorem ancs_at (ops : Array Oper) {n i : Nat} (h : i < n) : (ancs ops n).getD i 0 = maskOf (ancs ops i) (afters ops i) := by
  induction n with
  | zero => omega
  | succ n ih =>
    show (ancs ops n ++ [_]).getD i 0 = _
    rw [List.getD_eq_getElem?_getD]
    by_cases c : i < n
    · rw [List.getElem?_append_left (by rw [ancs_len]; exact c), ← List.getD_eq_getElem?_getD]
      exact ih c
    · have e : i = n := by omega
      subst e
      rw [List.getElem?_append_right (by rw [ancs_len]; exact Nat.le_refl _), ancs_len, Nat.sub_self]
      rfl
def up (ops : Array Oper) (an : List Nat) (i j : Nat) : Bool := (an.getD i 0).testBit j
section
variable {ops : Array Oper} {L : Nat → Bool}
theorem up_mem (hdc : ∀ i, L i = true → ∀ j ∈ afters ops i, L j = true) : ∀ (n i : Nat), i < n → (∀ j ∈ afters ops i, L j = true) → ∀ k, ((ancs ops n).getD i 0).testBit k = true → L k = true := by
  intro n
  induction n with
  | zero => intro i h; omega
  | succ n ih =>
    intro i hi ha k hk
    rw [ancs_at ops hi] at hk
    rcases mask_bit _ _ hk with q | ⟨j, hj, q⟩
    · simp at q
    · have hLj := ha j hj
      rcases q with rfl | q
      · exact hLj
      · by_cases c : j < i
        · refine ih j (by omega) (hdc j hLj) k ?_
          have e1 := ancs_at ops (n := n) (i := j) (by omega)
          have e2 := ancs_at ops (n := i) (i := j) c
          rw [e1, ← e2]
          exact q
        · rw [List.getD_eq_getElem?_getD, List.getElem?_eq_none (by rw [ancs_len]; omega)] at q
          simp at q
end
structure Ct (P : Program) where
  raws : List SV
  bs : List (Option (Ora P))
  os : List (Option (Ora P))
  Ms : List Mem
  As : List Bds
  ws : List Nat
  al : List Nat
section
variable {P : Program}
def rawB (b : Option (Ora P)) (sv : SV) : SV := match b with | some (.b c _ _) => .v (.bool c) | some (.r v0 _ _) => .v v0 | _ => sv
def finB (b : Option (Ora P)) (sv : SV) : SV := match b with | some (.b _ v _) => .v (.bool v) | some (.r _ v1 _) => .v v1 | _ => sv
theorem finB_den (b : Option (Ora P)) (sv : SV) (β : List Nat) : (finB b sv).den β = (rawB b sv).den β := by
  unfold finB rawB
  split
  · next c v h => rw [h]
  · next v0 v1 h => rw [h]
  · rfl
theorem finB_v (b : Option (Ora P)) (sv : SV) (l o : Nat) (h : finB b sv = .p l o) : rawB b sv = .p l o := by
  unfold finB at h
  unfold rawB
  split at h
  · cases h
  · cases h
  · exact h
theorem finB_s (b : Option (Ora P)) (sv : SV) (l o : Nat) (h : finB b sv = .s l o) : rawB b sv = .s l o := by
  unfold finB at h
  unfold rawB
  split at h
  · cases h
  · cases h
  · exact h
theorem finB_g (b : Option (Ora P)) (sv : SV) (n : Nat) (f : (Nat → Nat) → Value) (h : finB b sv = .g n f) : rawB b sv = .g n f := by
  unfold finB at h
  unfold rawB
  split at h
  · cases h
  · cases h
  · exact h
variable (ops : Array Oper) (fr : List SV) (n0 : Nat) (ct : Ct P) (an : List Nat)
def Ct.rw (i : Nat) : SV := rawB (ct.bs.getD i none) (ct.raws.getD i (.v undef))
def Ct.sv (i : Nat) : SV := finB (ct.bs.getD i none) (ct.raws.getD i (.v undef))
def sview (svs : Nat → SV) (i : Nat) : Operand → SV
  | .tmp u => match wrOf ops u with
    | some j => bif (afters ops i).contains j then svs j else fr.getD u (.v undef)
    | none => fr.getD u (.v undef)
  | .const v => .v v
  | .global g => .v (.pointer (some ⟨g, 0, none⟩))
  | .func f => .v (.func (.func f) #[] #[])
def wantD (svs : Nat → SV) (o : Oper) : Bool := match o.guard with | none => true | some (j, want) => match svs j with | .v (.bool b) => b == want | _ => false
def Ct.lo (i : Nat) : Nat := (ct.ws.filter (fun x => up ops an i x)).length
def Ct.hi (i : Nat) : Nat := ct.ws.length - (ct.ws.filter (fun x => up ops an x i)).length
def Ct.rng (i : Nat) : List Nat := List.range' (ct.lo ops an i) (ct.hi ops an i + 1 - ct.lo ops an i)
def Ct.okL (i l : Nat) : Bool := decide (l < n0) || (ct.al[l - n0]?).any (fun q => up ops an i q)
def Ct.free (i : Nat) : Bool := !ct.ws.contains i && !ct.al.contains i
def bad : List (Tk × Tk) := [(.b false, .b true)]
def ldChk (P : Program) (M : Mem) (ty : TypeId) (l off : Nat) (sv : SV) : List (Tk × Tk) :=
  match M[l]?, sv with
  | some (cs, _), .v u =>
    bif rowT P ty then [(.n ((P.info? ty).map (·.size)), .n (some (sizeT P ty))), (.b (decide (off + sizeT P ty ≤ cs.size)), .b true), (.v (.agg (part cs off (sizeT P ty))), .v u)]
    else [(.b (plainT (P.underlying ty)), .b true), (.o cs[off]?, .o (some u))]
  | _, _ => bad
def svIs (sv : SV) (u : Value) : List (Tk × Tk) := match sv with | .v x => [(.v x, .v u)] | _ => bad
def newChk (i : Nat) (sv : SV) (blk : Array Value × TypeId) : List (Tk × Tk) :=
  match sv with
  | .p l off => (Tk.b (decide (n0 ≤ l) && (decide (off = 0) && (ct.al[l - n0]? == some i && !ct.ws.contains i))), Tk.b true) :: (ct.rng ops an i).map (fun j => (Tk.m ((ct.Ms.getD j []).drop l).head?.toList, Tk.m [blk]))
  | _ => bad
def slChk (i : Nat) (n : Nat) (sv : SV) (blk : Array Value × TypeId) : List (Tk × Tk) :=
  match sv with
  | .s l n' => (Tk.b (decide (n0 ≤ l) && (decide (n' = n) && (ct.al[l - n0]? == some i && !ct.ws.contains i))), Tk.b true) :: (ct.rng ops an i).map (fun j => (Tk.m ((ct.Ms.getD j []).drop l).head?.toList, Tk.m [blk]))
  | _ => bad
/-- The hole: what it answers is told by y, what is owned then, too. -/
def holeChk (o : Oper) (ρ : Operand → SV) (i : Nat) (wh : Wh) (lo : List (Nat × Array Value × TypeId)) (p : Nat) (A A' : Bds) (v : Value) (sv : SV) : Chk := fun β w =>
  whChk P o ρ wh β w ++ (svIs sv v ++
    ((.b (ct.ws[ct.ws.idxOf i]? == some i && !ct.al.contains i), .b true) :: (.b (lo.all (fun x => ct.okL ops n0 an i x.1)), .b true) :: (.m (lo.map (fun x => ((ct.Ms.getD (ct.ws.idxOf i) [])[x.1]?).getD (#[], 0))), .m (lo.map (·.2))) :: (.b (lo.all (fun x => decide (x.1 < (ct.Ms.getD (ct.ws.idxOf i) []).length))), .b true) :: (.d (ct.As.getD (ct.ws.idxOf i + 1) []), .d (setB (ct.As.getD (ct.ws.idxOf i) []) A A' p)) :: (.m (ct.Ms.getD (ct.ws.idxOf i + 1) []), .m (ct.Ms.getD (ct.ws.idxOf i) [])) :: atB (ct.As.getD (ct.ws.idxOf i) []) A p))
def toldChk (o : Oper) (ρ : Operand → SV) (i : Nat) (or : Option (Ora P)) (sv : SV) : Chk := fun β w =>
  match or with
  | some (.x rd wh p A A' v _) =>
    whChk P o ρ wh β w ++ (svIs sv v ++
    bif rd then (.b (ct.free i), .b true) :: (.d A, .d A') :: (ct.rng ops an i).map (fun j => (Tk.d (((ct.As.getD j []).drop p).take A.length), Tk.d A))
    else (.b (ct.ws[ct.ws.idxOf i]? == some i && !ct.al.contains i), .b true) :: (.d (ct.As.getD (ct.ws.idxOf i + 1) []), .d (setB (ct.As.getD (ct.ws.idxOf i) []) A A' p)) :: (.m (ct.Ms.getD (ct.ws.idxOf i + 1) []), .m (ct.Ms.getD (ct.ws.idxOf i) [])) :: atB (ct.As.getD (ct.ws.idxOf i) []) A p)
  | some (.c f args v _) => (.b (ct.free i), .b true) :: (.r ((execOp (fun x => (ρ x).den β) o).run P w), .r (.ok (.enter f args) w)) :: svIs sv v
  | some (.q op ty a b v _) => (.b (ct.free i), .b true) :: (svIs sv (.bool v) ++ qChk P o ρ op ty a b β w)
  | some (.y wh lo p A A' v _) => holeChk ops n0 ct an o ρ i wh lo p A A' v sv β w
  | _ => bad
def pureChk (o : Oper) (ρ : Operand → SV) (i : Nat) (sv : SV) : Chk := fun β w => [(.b (ct.free i), .b true), (.r ((execOp (fun x => (ρ x).den β) o).run P w), .r (.ok (.value (sv.den β)) w))]
def plainChk (i : Nat) (o : Oper) : Chk := fun β w =>
  bif asks o (sview ops fr ct.sv i) then toldChk ops n0 ct an o (sview ops fr ct.sv i) i (ct.os.getD i none) (ct.rw i) β w else
  match o.op with
  | .load ty x => match sview ops fr ct.sv i x with
    | .p l off => (.b (ct.okL ops n0 an i l && ct.free i), .b true) :: (ct.rng ops an i).flatMap (fun j => ldChk P (ct.Ms.getD j []) ty l off (ct.rw i))
    | _ => bad
  | .store ty x y => match sview ops fr ct.sv i x with
    | .p l off => match sview ops fr ct.sv i y, (ct.Ms.getD (ct.ws.idxOf i) [])[l]? with
      | .v u, some (cs, t) => (.b (ct.okL ops n0 an i l && (ct.ws[ct.ws.idxOf i]? == some i && !ct.al.contains i)), .b true) :: (.m (ct.Ms.getD (ct.ws.idxOf i + 1) []), .m ((ct.Ms.getD (ct.ws.idxOf i) []).set l (setL cs off u.cells.toList, t))) :: (.d (ct.As.getD (ct.ws.idxOf i + 1) []), .d (ct.As.getD (ct.ws.idxOf i) [])) ::
        (.n ((P.info? ty).map (·.size)), .n (some u.cells.size)) :: (.b (decide (off + u.cells.size ≤ cs.size)), .b true) :: (.b (u.cells.all (·.oneCell')), .b true) :: svIs (ct.rw i) undef
      | _, _ => bad
    | _ => bad
  | .box ty x => match sview ops fr ct.sv i x with
    | .v u => newChk ops n0 ct an i (ct.rw i) (u.cells, ty)
    | _ => bad
  | .alloc ty => (.z ((zeroValue ty).run P w), .z (.ok (zOf ((zeroValue ty).run P default)) w)) :: newChk ops n0 ct an i (ct.rw i) ((zOf ((zeroValue ty).run P default)).cells, ty)
  | .buildSlice _ n _ => (.r ((execOp (fun x => (sview ops fr ct.sv i x).den β) o).run P w), .r (.ok (.value (.slice (some ⟨w.heap.size, 0, none⟩) n n)) (w.alloc (.cells (cellsOf ((execOp (fun x => (sview ops fr ct.sv i x).den []) o).run P default)).1 (cellsOf ((execOp (fun x => (sview ops fr ct.sv i x).den []) o).run P default)).2)))) :: slChk ops n0 ct an i n (ct.rw i) (cellsOf ((execOp (fun x => (sview ops fr ct.sv i x).den []) o).run P default))
  | _ => pureChk ct o (sview ops fr ct.sv i) i (ct.rw i) β w
def opChk (i : Nat) (o : Oper) : Chk := fun β w =>
  bif wantD ct.sv o then
    (.b (knows o (sview ops fr ct.sv i)), .b true) :: plainChk ops fr n0 ct an i o β w
  else (.b (ct.free i), .b true) :: svIs (ct.rw i) undef
end
/-! How many writers came up. -/
def pairUp (ops : Array Oper) (an : List Nat) : List Nat → Bool
  | [] => true
  | x :: xs => xs.all (fun y => up ops an y x) && pairUp ops an xs
def ver (ws : List Nat) (L : Nat → Bool) : Nat := (ws.takeWhile L).length
section
variable {ops : Array Oper} {an ws : List Nat} {L : Nat → Bool} {i j : Nat}
theorem take_congr {p q : Nat → Bool} : ∀ {l : List Nat}, (∀ x ∈ l, p x = q x) → l.takeWhile p = l.takeWhile q
  | [], _ => rfl
  | x :: l, h => by
    have e := h x List.mem_cons_self
    have ih := take_congr (p := p) (q := q) (l := l) fun y hy => h y (List.mem_cons_of_mem _ hy)
    rw [List.takeWhile_cons, List.takeWhile_cons, e, ih]
theorem ver_free (h : ws.contains i = false) : ver ws (upd L i) = ver ws L := by
  unfold ver
  rw [take_congr (q := L) fun x hx => ?_]
  unfold upd
  rw [if_neg]
  rintro rfl
  rw [List.contains_iff_mem.2 hx] at h
  cases h
theorem ver_at (hL : L i = false) (h1 : ∀ x, up ops an i x = true → L x = true) (h2 : ∀ y, up ops an y i = true → L y = false) : ∀ {ws : List Nat} {j : Nat}, pairUp ops an ws = true → ws[j]? = some i → ver ws L = j ∧ ver ws (upd L i) = j + 1
  | x :: xs, 0, hp, e => by
    injection e with e
    subst e
    unfold pairUp at hp
    rw [Bool.and_eq_true, List.all_eq_true] at hp
    have e1 : ver (x :: xs) L = 0 := by unfold ver; rw [List.takeWhile_cons, hL]; rfl
    refine ⟨e1, ?_⟩
    unfold ver
    rw [List.takeWhile_cons, show upd L x x = true by unfold upd; rw [if_pos rfl]]
    show (xs.takeWhile (upd L x)).length + 1 = 1
    cases xs with
    | nil => rfl
    | cons y ys =>
      have q := hp.1 y List.mem_cons_self
      have hy := h2 y q
      have hne : y ≠ x := fun e => by subst e; rw [h1 y q] at hL; cases hL
      rw [List.takeWhile_cons, show upd L x y = false by unfold upd; rw [if_neg hne]; exact hy]
      rfl
  | x :: xs, j + 1, hp, e => by
    unfold pairUp at hp
    rw [Bool.and_eq_true, List.all_eq_true] at hp
    have hi : i ∈ xs := List.mem_of_getElem? (by simpa using e)
    have hx := h1 x (hp.1 i hi)
    have hxu : upd L i x = true := by unfold upd; split; rfl; exact hx
    obtain ⟨q1, q2⟩ := ver_at (ws := xs) (j := j) hL h1 h2 hp.2 (by simpa using e)
    unfold ver at q1 q2 ⊢
    rw [List.takeWhile_cons, List.takeWhile_cons, hx, hxu]
    exact ⟨by simpa using q1, by simpa using q2⟩
  | [], j, hp, e => by cases e
theorem ver_count (hc : ∀ x y, L y = true → up ops an y x = true → L x = true) : ∀ {ws : List Nat}, pairUp ops an ws = true → ver ws L = ws.countP L
  | [], _ => rfl
  | x :: xs, hp => by
    unfold pairUp at hp
    rw [Bool.and_eq_true, List.all_eq_true] at hp
    unfold ver
    rw [List.takeWhile_cons, List.countP_cons]
    cases c : L x with
    | true =>
      have ih := ver_count hc hp.2
      unfold ver at ih
      simp [ih]
    | false =>
      have e : xs.countP L = 0 := List.countP_eq_zero.2 fun y hy hLy => by
        rw [hc x y hLy (hp.1 y hy)] at c
        cases c
      simp [e]
theorem count_apart {p q : Nat → Bool} : ∀ {l : List Nat}, (∀ x ∈ l, p x = true → q x = true → False) → l.countP p + l.countP q ≤ l.length
  | [], _ => Nat.le_refl _
  | x :: l, h => by
    have ih := count_apart (p := p) (q := q) (l := l) fun y hy => h y (List.mem_cons_of_mem _ hy)
    have hx := h x List.mem_cons_self
    rw [List.countP_cons, List.countP_cons, List.length_cons]
    cases c : p x <;> cases d : q x <;> first | (exact absurd (hx c d) id) | (simp; omega)
end
def alive (n0 : Nat) (al : List Nat) (L : Nat → Bool) (l : Nat) : Bool := decide (l < n0) || (al[l - n0]?).any L
def mixD (β : List Nat) (n0 : Nat) (al : List Nat) (L : Nat → Bool) (M : Mem) (F : Nat → Option (Nat × Array Value × TypeId)) (l : Nat) : Option (Nat × Array Value × TypeId) :=
  if l % 2 = 0 then (bif alive n0 al L (l / 2) then (M[l / 2]?).map (fun x => (β.getD (l / 2) 0, x)) else none) else F (l / 2)
theorem mixD_own {β : List Nat} {n0 : Nat} {al : List Nat} {L : Nat → Bool} {M : Mem} {F : Nat → Option (Nat × Array Value × TypeId)} (l : Nat) : mixD β n0 al L M F (2 * l) = bif alive n0 al L l then (M[l]?).map (fun x => (β.getD l 0, x)) else none := by
  unfold mixD
  rw [if_pos (by omega), show 2 * l / 2 = l by omega]
end Go.Proofs.YtccbdmccfbjmeaaDoor.Ev
end
section
/- A verified evaluator: a region that draws its order, its steps. -/
namespace Go.Proofs.YtccbdmccfbjmeaaDoor.Ev
open Go.RowKit

universe u
section
variable {P : Program} {ops : Array Oper} {fr : List SV} {n0 : Nat} {ct : Ct P} {β0 : List Nat} {w0 : World} {F : Fm} {a : Act} {t : List Nat} {L : Nat → Bool} {w : World} {i : Nat} {o : Oper}
abbrev anO (ops : Array Oper) : List Nat := ancs ops ops.size
def vsD (ct : Ct P) (β0 t : List Nat) (i : Nat) : Value := (ct.sv i).den (β0 ++ t)
def CD (ct : Ct P) (β0 : List Nat) (w0 : World) (F : Fm) (t : List Nat) (L : Nat → Bool) (w : World) : Prop :=
  t.length = ct.al.length ∧ Kf w0 (mixD (β0 ++ t) β0.length ct.al L (ct.Ms.getD (ver ct.ws L) []) F) (sepL (ct.As.getD (ver ct.ws L) [])) w
/-- Where one is, when an operation comes up. -/
structure Now (ops : Array Oper) (ct : Ct P) (L : Nat → Bool) (i : Nat) : Prop where
  no : L i = false
  be : ∀ x, up ops (anO ops) i x = true → L x = true
  af : ∀ y, up ops (anO ops) y i = true → L y = false
  dc : ∀ x y, L y = true → up ops (anO ops) y x = true → L x = true
  pw : pairUp ops (anO ops) ct.ws = true
theorem now_of (hL : L i = false) (hi : i < ops.size) (ha : ∀ j ∈ afters ops i, L j = true) (hdc : ∀ i, L i = true → ∀ j ∈ afters ops i, L j = true) (hp : pairUp ops (anO ops) ct.ws = true) : Now ops ct L i := by
  have key : ∀ y x, (∀ j ∈ afters ops y, L j = true) → up ops (anO ops) y x = true → L x = true := fun y x h hx => by
    by_cases c : y < ops.size
    · exact up_mem hdc ops.size y c h x hx
    · unfold up at hx
      rw [List.getD_eq_getElem?_getD, List.getElem?_eq_none (by rw [ancs_len]; omega)] at hx
      simp at hx
  refine ⟨hL, fun x => key i x ha, fun y hy => ?_, fun x y hy hx => key y x (hdc y hy) hx, hp⟩
  cases c : L y with
  | false => rfl
  | true => rw [key y i (hdc y c) hy] at hL; cases hL
theorem Now.in_rng (N : Now ops ct L i) : ver ct.ws L ∈ ct.rng ops (anO ops) i := by
  have e := ver_count N.dc N.pw
  have h1 : ct.lo ops (anO ops) i ≤ ver ct.ws L := by
    rw [e]
    unfold Ct.lo
    rw [← List.countP_eq_length_filter]
    exact List.countP_mono_left fun x _ h => N.be x h
  have h2 : ver ct.ws L ≤ ct.hi ops (anO ops) i := by
    rw [e]
    unfold Ct.hi
    rw [← List.countP_eq_length_filter]
    have := count_apart (l := ct.ws) (p := L) (q := fun x => up ops (anO ops) x i) fun x _ h1 h2 => by rw [N.af x h2] at h1; cases h1
    omega
  unfold Ct.rng
  rw [List.mem_range'_1]
  omega
theorem Now.alive (N : Now ops ct L i) {l : Nat} (h : ct.okL ops n0 (anO ops) i l = true) : alive n0 ct.al L l = true := by
  unfold Ct.okL at h
  unfold Ev.alive
  rw [Bool.or_eq_true] at h ⊢
  refine h.imp id fun h => ?_
  cases c : ct.al[l - n0]? with
  | none => rw [c] at h; cases h
  | some q => rw [c] at h; exact N.be q h
theorem alive_other {l : Nat} (h : ct.al.contains i = false) : Ev.alive n0 ct.al (upd L i) l = Ev.alive n0 ct.al L l := by
  unfold Ev.alive
  congr 1
  cases c : ct.al[l - n0]? with
  | none => rfl
  | some q =>
    show upd L i q = L q
    unfold upd
    rw [if_neg]
    rintro rfl
    rw [List.contains_iff_mem.2 (List.mem_of_getElem? c)] at h
    cases h
theorem CD.at (h : CD ct β0 w0 F t L w) {l : Nat} (ha : Ev.alive β0.length ct.al L l = true) {x : Array Value × TypeId} (e : (ct.Ms.getD (ver ct.ws L) [])[l]? = some x) : mixD (β0 ++ t) β0.length ct.al L (ct.Ms.getD (ver ct.ws L) []) F (2 * l) = some ((β0 ++ t).getD l 0, x) := by
  rw [mixD_own, ha, e]
  rfl
/-- An operation that changes neither blocks nor owned things. -/
theorem CD.stay (h : CD ct β0 w0 F t L w) (hf : ct.free i = true) {w' : World} (k : Kf w0 (mixD (β0 ++ t) β0.length ct.al L (ct.Ms.getD (ver ct.ws L) []) F) (sepL (ct.As.getD (ver ct.ws L) [])) w') : CD ct β0 w0 F t (upd L i) w' := by
  unfold Ct.free at hf
  rw [Bool.and_eq_true, Bool.not_eq_true', Bool.not_eq_true'] at hf
  refine ⟨h.1, ?_⟩
  rw [ver_free hf.1]
  refine k.eq fun l => ?_
  unfold mixD
  rw [alive_other hf.2]
theorem CD.write (h : CD ct β0 w0 F t L w) (N : Now ops ct L i) {j : Nat} (hj : (ct.ws[j]? == some i && !ct.al.contains i) = true) {w' : World} {M : Mem} {A : Bds} (hM : ct.Ms.getD (j + 1) [] = M) (hA : ct.As.getD (j + 1) [] = A)
    (k : Kf w0 (mixD (β0 ++ t) β0.length ct.al L M F) (sepL A) w') : CD ct β0 w0 F t (upd L i) w' := by
  rw [Bool.and_eq_true, Bool.not_eq_true', beq_iff_eq] at hj
  refine ⟨h.1, ?_⟩
  rw [(ver_at N.no N.be N.af N.pw hj.1).2, hM, hA]
  refine k.eq fun l => ?_
  unfold mixD
  rw [alive_other hj.2]
theorem Now.ver (N : Now ops ct L i) {j : Nat} (hj : (ct.ws[j]? == some i && !ct.al.contains i) = true) : Ev.ver ct.ws L = j := by
  rw [Bool.and_eq_true, beq_iff_eq] at hj
  exact (ver_at N.no N.be N.af N.pw hj.1).1
/-- What a step of a drawn region has to come to. -/
def Does (P : Program) (ct : Ct P) (β0 : List Nat) (w0 : World) (F : Fm) (t : List Nat) (L : Nat → Bool) (i : Nat) (o : Oper) (ρ : Operand → Value) (w : World) : Prop :=
  stepW P o ρ (fun u w' => ∃ t', (∀ j, L j = true → vsD ct β0 t j = vsD ct β0 t' j) ∧ u = vsD ct β0 t' i ∧ CD ct β0 w0 F t' (upd L i) w') w
theorem sv_rw : vsD ct β0 t i = (ct.rw i).den (β0 ++ t) := finB_den _ _ _
theorem svIs_eq {sv : SV} {u : Value} (h : okk (svIs sv u)) : sv = .v u := by
  unfold svIs at h
  split at h
  · simp only [okk_cons] at h
    injection h.1 with h
    rw [h]
  · unfold bad at h
    simp only [okk_cons] at h
    cases h.1
theorem bad_no (h : okk bad) : False := by
  unfold bad at h
  simp only [okk_cons] at h
  cases h.1
theorem okk_map {α : Type} {f g : α → Tk} {l : List α} (h : okk (l.map fun x => (f x, g x))) {x : α} (hx : x ∈ l) : f x = g x := by
  induction l with
  | nil => cases hx
  | cons y l ih =>
    rw [List.map_cons, okk_cons] at h
    rcases List.mem_cons.1 hx with rfl | hx
    · exact h.1
    · exact ih h.2 hx
theorem okk_flat {α : Type u} {f : α → List (Tk × Tk)} {l : List α} (h : okk (l.flatMap f)) {x : α} (hx : x ∈ l) : okk (f x) := by
  induction l with
  | nil => cases hx
  | cons y l ih =>
    rw [List.flatMap_cons, okk_app] at h
    rcases List.mem_cons.1 hx with rfl | hx
    · exact h.1
    · exact ih h.2 hx
theorem does_val {ρ : Operand → Value} (hC : CD ct β0 w0 F t L w) (hf : ct.free i = true) (h : (execOp ρ o).run P w = .ok (.value ((ct.rw i).den (β0 ++ t))) w) : Does P ct β0 w0 F t L i o ρ w :=
  stepW_val h ⟨t, fun _ _ => rfl, sv_rw.symm, hC.stay hf hC.2⟩
theorem does_pure {ρ : Operand → SV} (hC : CD ct β0 w0 F t L w) (hk : ∀ β w, okk (pureChk ct o ρ i (ct.rw i) β w)) : Does P ct β0 w0 F t L i o (fun x => (ρ x).den (β0 ++ t)) w := by
  have q := hk (β0 ++ t) w
  unfold pureChk at q
  simp only [okk_cons] at q
  obtain ⟨q1, q2, -⟩ := q
  injection q1 with q1
  injection q2 with q2
  exact does_val hC q1 q2
theorem does_told {ρ : Operand → SV} {or : Option (Ora P)} (hC : CD ct β0 w0 F t L w) (N : Now ops ct L i) (hk : ∀ β w, okk (toldChk ops β0.length ct (anO ops) o ρ i or (ct.rw i) β w)) : Does P ct β0 w0 F t L i o (fun x => (ρ x).den (β0 ++ t)) w := by
  have q := hk (β0 ++ t) w
  unfold toldChk at q
  split at q
  · next rd wh p A A' v hh =>
    rw [okk_app, okk_app] at q
    obtain ⟨q1, q2, q3⟩ := q
    have q2 := svIs_eq q2
    cases rd with
    | true =>
      simp only [cond_true, okk_cons] at q3
      obtain ⟨q4, q5, q6⟩ := q3
      injection q4 with q4
      injection q5 with q5
      have q6 := okk_map q6 N.in_rng
      subst q5
      have q7 : okk (atB (ct.As.getD (ver ct.ws L) []) A p) := by unfold atB; rw [okk_cons]; exact ⟨q6, rfl⟩
      refine wh_step q1 (whStep_mono (hh w0 _ _ (β0 ++ t) w (mid_in q7 hC.2)) fun u w' ⟨e, k⟩ => ⟨t, fun _ _ => rfl, ?_, hC.stay q4 ?_⟩)
      · rw [sv_rw, q2, e]; rfl
      · have e2 := atB_eq (A2 := A) q7
        rw [e2]
        exact Kf.ofMid k
    | false =>
      simp only [cond_false, okk_cons] at q3
      obtain ⟨q4, q5, q6, q7⟩ := q3
      injection q4 with q4
      injection q5 with q5
      injection q6 with q6
      have hv := N.ver q4
      have hC2 := hC.2
      rw [hv] at hC2
      refine wh_step q1 (whStep_mono (hh w0 _ _ (β0 ++ t) w (mid_in q7 hC2)) fun u w' ⟨e, k⟩ => ⟨t, fun _ _ => rfl, ?_, hC.write N q4 q6 q5 (Kf.ofMid k)⟩)
      rw [sv_rw, q2, e]; rfl
  · rename_i f args v hh
    rw [okk_cons, okk_cons] at q
    obtain ⟨q1, q2, q3⟩ := q
    injection q1 with q1
    injection q2 with q2
    have q3 := svIs_eq q3
    refine stepW_call q2 ((hh w).mono fun e w2 ⟨e1, e2⟩ => ⟨v, e1, t, fun _ _ => rfl, ?_, hC.stay q1 (hC.2.next e2)⟩)
    rw [sv_rw, q3]; rfl
  · rename_i op ty a b v hh
    rw [okk_cons, okk_app] at q
    obtain ⟨q1, q2, q3⟩ := q
    injection q1 with q1
    refine does_val hC q1 ?_
    rw [svIs_eq q2]
    exact run_q hh q3
  · rename_i wh lo p A A' v hh
    unfold holeChk at q
    simp only [okk_cons, okk_app] at q
    obtain ⟨q1, q2, q4, b1, b2, b3, q5, q6, q7⟩ := q
    injection q4 with q4
    injection q5 with q5
    injection q6 with q6
    injection b1 with b1
    injection b2 with b2
    injection b3 with b3
    rw [List.all_eq_true] at b1 b3
    have hv := N.ver q4
    have hC2 := hC.2
    rw [hv] at hC2
    have hlo : ∀ x ∈ lo, ∃ k, mixD (β0 ++ t) β0.length ct.al L (ct.Ms.getD (ct.ws.idxOf i) []) F k = some ((β0 ++ t).getD x.1 0, x.2) := fun x hx => by
      refine ⟨2 * x.1, ?_⟩
      have hlt := of_decide_eq_true (b3 x hx)
      rw [mixD_own, N.alive (b1 x hx), List.getElem?_eq_getElem hlt]
      have e2 := rg_map_mem b2 hx
      rw [List.getElem?_eq_getElem hlt] at e2
      have e2 : _ = x.2 := e2
      show some ((β0 ++ t).getD x.1 0, _) = _
      rw [← e2]
      rfl
    refine wh_step q1 (whStep_mono (hh w0 _ _ (β0 ++ t) w hlo (mid_in q7 hC2)) fun u w' ⟨e, k⟩ => ⟨t, fun _ _ => rfl, ?_, hC.write N q4 q6 q5 (Kf.ofMid k)⟩)
    rw [sv_rw, svIs_eq q2, e]; rfl
  · exact (bad_no q).elim
theorem does_load {ρ : Operand → SV} {ty : TypeId} {x : Operand} {l off : Nat} (ho : o.op = .load ty x) (hx : ρ x = .p l off) (hC : CD ct β0 w0 F t L w) (N : Now ops ct L i) (h1 : (ct.okL ops β0.length (anO ops) i l && ct.free i) = true)
    (hk : okk ((ct.rng ops (anO ops) i).flatMap (fun j => ldChk P (ct.Ms.getD j []) ty l off (ct.rw i)))) : Does P ct β0 w0 F t L i o (fun x => (ρ x).den (β0 ++ t)) w := by
  rw [Bool.and_eq_true] at h1
  have q := okk_flat hk N.in_rng
  have hx' : (fun x => (ρ x).den (β0 ++ t)) x = .pointer (some ⟨(β0 ++ t).getD l 0, off, none⟩) := by show (ρ x).den _ = _; rw [hx]; rfl
  unfold ldChk at q
  split at q
  · next cs ty0 u e hru =>
    have hb := hC.2.all _ _ (hC.at (N.alive h1.1) e)
    refine does_val hC h1.2 ?_
    rw [hru]
    cases c : rowT P ty with
    | true =>
      rw [c] at q
      simp only [cond_true, okk_cons] at q
      obtain ⟨q1, q2, q3, -⟩ := q
      injection q1 with q1
      injection q2 with q2
      injection q3 with q3
      have q2 := of_decide_eq_true q2
      have hp : (part cs off (sizeT P ty)).toList = (cs.toList.drop off).take (sizeT P ty) := by
        unfold part
        cases c2 : off == 0 && sizeT P ty == cs.size with
        | true =>
          rw [Bool.and_eq_true, beq_iff_eq, beq_iff_eq] at c2
          rw [c2.1, c2.2]
          show cs.toList = _
          rw [List.drop_zero, List.take_of_length_le (by simp)]
        | false => simp [Array.toList_extract, List.extract_eq_take_drop]
      have hlen : (part cs off (sizeT P ty)).toList.length = sizeT P ty := by rw [hp, List.length_take, List.length_drop]; simp; omega
      have hr : w.rangeAt ((β0 ++ t).getD l 0) off (part cs off (sizeT P ty)).toList := fun i v hv => by
        have hi := (List.getElem?_eq_some_iff.1 hv).1
        rw [hp, List.getElem?_take_of_lt (by omega), List.getElem?_drop] at hv
        rw [hb.cell]
        simpa using hv
      unfold rowT at c
      split at c
      · next d hd =>
        unfold execOp
        have e2 := run_loadVar_mid w ((β0 ++ t).getD l 0) off ty _ d hr hd c (by rw [hlen]; exact q1)
        simp only [ho, hx', Instr.loadAt, Instr.sureAddr, Sem.run_bind, Sem.run_pure, Result.andThen_ok, e2, Array.toArray_toList]
        rw [q3]; rfl
      · cases c
    | false =>
      rw [c] at q
      simp only [cond_false, okk_cons] at q
      obtain ⟨q1, q2, -⟩ := q
      injection q1 with q1
      injection q2 with q2
      unfold execOp
      have e2 := run_loadAt_cell (P := P) (ty := ty) (w := w) (p := ⟨(β0 ++ t).getD l 0, off, none⟩) q1 (by rw [hb.cell]; exact q2)
      simp only [ho, hx', Sem.run_bind, Sem.run_pure, Result.andThen_ok, e2]
      rfl
  · exact (bad_no q).elim
theorem does_new {ρ : Operand → Value} {ty : TypeId} {u : Value} (hC : CD ct β0 w0 F t L w) (N : Now ops ct L i) (hnd : ct.al.Nodup) (hmen : ∀ j l off, ct.sv j = .p l off → l < β0.length ∨ ∃ q, ct.al[l - β0.length]? = some q ∧ (q = j ∨ up ops (anO ops) j q = true))
    (hmenS : ∀ j l off, ct.sv j = .s l off → l < β0.length ∨ ∃ q, ct.al[l - β0.length]? = some q ∧ (q = j ∨ up ops (anO ops) j q = true))
    (hmenG : ∀ j n f, ct.sv j = .g n f → ∀ l, β0.length ≤ l → l < n → ∃ q, ct.al[l - β0.length]? = some q ∧ (q = j ∨ up ops (anO ops) j q = true))
    (hk : okk (newChk ops β0.length ct (anO ops) i (ct.rw i) (u.cells, ty))) (h : (execOp ρ o).run P w = .ok (.value (.pointer (some ⟨w.heap.size, 0, none⟩))) (w.alloc (.cells u.cells ty))) : Does P ct β0 w0 F t L i o ρ w := by
  unfold newChk at hk
  split at hk
  · next l off hru =>
    rw [okk_cons] at hk
    obtain ⟨q1, q2⟩ := hk
    injection q1 with q1
    rw [Bool.and_eq_true, Bool.and_eq_true, Bool.and_eq_true, decide_eq_true_iff, decide_eq_true_iff, beq_iff_eq, Bool.not_eq_true'] at q1
    obtain ⟨c1, c2, c3, c4⟩ := q1
    have q2 := okk_map q2 N.in_rng
    injection q2 with q2
    have hMl : (ct.Ms.getD (ver ct.ws L) [])[l]? = some (u.cells, ty) := by
      rw [List.head?_drop] at q2
      cases c : (ct.Ms.getD (ver ct.ws L) [])[l]? with
      | none => rw [c] at q2; cases q2
      | some x => rw [c] at q2; simpa using q2
    have hlt : l - β0.length < ct.al.length := (List.getElem?_eq_some_iff.1 c3).1
    have hlt2 : l - β0.length < t.length := by rw [hC.1]; exact hlt
    have hset : ∀ j, j ≠ l → (β0 ++ t.set (l - β0.length) w.heap.size).getD j 0 = (β0 ++ t).getD j 0 := fun j hj => by
      rw [List.getD_eq_getElem?_getD, List.getD_eq_getElem?_getD, List.getElem?_append, List.getElem?_append]
      split
      · rfl
      · rw [List.getElem?_set_ne (by omega)]
    have hself : (β0 ++ t.set (l - β0.length) w.heap.size).getD l 0 = w.heap.size := by
      rw [List.getD_eq_getElem?_getD, List.getElem?_append_right c1, List.getElem?_set_self hlt2]
      rfl
    refine stepW_val h ⟨t.set (l - β0.length) w.heap.size, fun j hj => ?_, ?_, ?_, ?_⟩
    · unfold vsD
      cases e : ct.sv j with
      | v x => rfl
      | u => rfl
      | s l2 o2 =>
        have hne : l2 ≠ l := fun e2 => by
          subst e2
          rcases hmenS j l2 o2 e with q | ⟨q, e3, e4⟩
          · omega
          · rw [c3] at e3
            injection e3 with e3
            subst e3
            rcases e4 with rfl | e4
            · rw [N.no] at hj; cases hj
            · rw [N.af j e4] at hj; cases hj
        show Value.slice _ _ _ = Value.slice _ _ _
        rw [hset l2 hne]
      | g n f =>
        have hne : ¬ l < n := fun e2 => by
          obtain ⟨q, e3, e4⟩ := hmenG j n f e l c1 e2
          rw [c3] at e3
          injection e3 with e3
          subst e3
          rcases e4 with rfl | e4
          · rw [N.no] at hj; cases hj
          · rw [N.af j e4] at hj; cases hj
        show f _ = f _
        congr 1
        funext l2
        cases c5 : decide (l2 < n) with
        | false => rfl
        | true =>
          have c5 := of_decide_eq_true c5
          exact (hset l2 (by omega)).symm
      | p l2 o2 =>
        have hne : l2 ≠ l := fun e2 => by
          subst e2
          rcases hmen j l2 o2 e with q | ⟨q, e3, e4⟩
          · omega
          · rw [c3] at e3
            injection e3 with e3
            subst e3
            rcases e4 with rfl | e4
            · rw [N.no] at hj; cases hj
            · rw [N.af j e4] at hj; cases hj
        show Value.pointer _ = Value.pointer _
        rw [hset l2 hne]
    · rw [sv_rw, hru, c2]
      show Value.pointer _ = Value.pointer _
      rw [hself]
    · rw [List.length_set]; exact hC.1
    · rw [ver_free c4]
      refine Kf.alloc (l := 2 * l) hC.2 u.cells ty fun j => ?_
      unfold mixD
      by_cases c : j % 2 = 0
      · rw [if_pos c, if_pos c]
        by_cases d : j / 2 = l
        · rw [if_pos (by omega), d, hMl, hself]
          have : Ev.alive β0.length ct.al (upd L i) l = true := by
            unfold Ev.alive
            rw [c3, Bool.or_eq_true]
            right
            show upd L i i = true
            unfold upd
            rw [if_pos rfl]
          rw [this]
          rfl
        · rw [if_neg (by omega), hset _ d]
          have : Ev.alive β0.length ct.al (upd L i) (j / 2) = Ev.alive β0.length ct.al L (j / 2) := by
            unfold Ev.alive
            by_cases c5 : j / 2 < β0.length
            · simp [c5]
            · congr 1
              cases c6 : ct.al[j / 2 - β0.length]? with
              | none => rfl
              | some q =>
                show upd L i q = L q
                unfold upd
                rw [if_neg]
                rintro rfl
                have := (List.getElem?_inj hlt hnd).1 (c3.trans c6.symm)
                omega
          rw [this]
      · rw [if_neg c, if_neg (by omega), if_neg c]
  · exact (bad_no hk).elim
theorem does_sl {ρ : Operand → Value} {ty : TypeId} {n : Nat} {cs : Array Value} (hC : CD ct β0 w0 F t L w) (N : Now ops ct L i) (hnd : ct.al.Nodup) (hmen : ∀ j l off, ct.sv j = .p l off → l < β0.length ∨ ∃ q, ct.al[l - β0.length]? = some q ∧ (q = j ∨ up ops (anO ops) j q = true))
    (hmenS : ∀ j l off, ct.sv j = .s l off → l < β0.length ∨ ∃ q, ct.al[l - β0.length]? = some q ∧ (q = j ∨ up ops (anO ops) j q = true))
    (hmenG : ∀ j n f, ct.sv j = .g n f → ∀ l, β0.length ≤ l → l < n → ∃ q, ct.al[l - β0.length]? = some q ∧ (q = j ∨ up ops (anO ops) j q = true))
    (hk : okk (slChk ops β0.length ct (anO ops) i n (ct.rw i) (cs, ty))) (h : (execOp ρ o).run P w = .ok (.value (.slice (some ⟨w.heap.size, 0, none⟩) n n)) (w.alloc (.cells cs ty))) : Does P ct β0 w0 F t L i o ρ w := by
  unfold slChk at hk
  split at hk
  · next l off hru =>
    rw [okk_cons] at hk
    obtain ⟨q1, q2⟩ := hk
    injection q1 with q1
    rw [Bool.and_eq_true, Bool.and_eq_true, Bool.and_eq_true, decide_eq_true_iff, decide_eq_true_iff, beq_iff_eq, Bool.not_eq_true'] at q1
    obtain ⟨c1, c2, c3, c4⟩ := q1
    have q2 := okk_map q2 N.in_rng
    injection q2 with q2
    have hMl : (ct.Ms.getD (ver ct.ws L) [])[l]? = some (cs, ty) := by
      rw [List.head?_drop] at q2
      cases c : (ct.Ms.getD (ver ct.ws L) [])[l]? with
      | none => rw [c] at q2; cases q2
      | some x => rw [c] at q2; simpa using q2
    have hlt : l - β0.length < ct.al.length := (List.getElem?_eq_some_iff.1 c3).1
    have hlt2 : l - β0.length < t.length := by rw [hC.1]; exact hlt
    have hset : ∀ j, j ≠ l → (β0 ++ t.set (l - β0.length) w.heap.size).getD j 0 = (β0 ++ t).getD j 0 := fun j hj => by
      rw [List.getD_eq_getElem?_getD, List.getD_eq_getElem?_getD, List.getElem?_append, List.getElem?_append]
      split
      · rfl
      · rw [List.getElem?_set_ne (by omega)]
    have hself : (β0 ++ t.set (l - β0.length) w.heap.size).getD l 0 = w.heap.size := by
      rw [List.getD_eq_getElem?_getD, List.getElem?_append_right c1, List.getElem?_set_self hlt2]
      rfl
    refine stepW_val h ⟨t.set (l - β0.length) w.heap.size, fun j hj => ?_, ?_, ?_, ?_⟩
    · unfold vsD
      cases e : ct.sv j with
      | v x => rfl
      | u => rfl
      | s l2 o2 =>
        have hne : l2 ≠ l := fun e2 => by
          subst e2
          rcases hmenS j l2 o2 e with q | ⟨q, e3, e4⟩
          · omega
          · rw [c3] at e3
            injection e3 with e3
            subst e3
            rcases e4 with rfl | e4
            · rw [N.no] at hj; cases hj
            · rw [N.af j e4] at hj; cases hj
        show Value.slice _ _ _ = Value.slice _ _ _
        rw [hset l2 hne]
      | g n f =>
        have hne : ¬ l < n := fun e2 => by
          obtain ⟨q, e3, e4⟩ := hmenG j n f e l c1 e2
          rw [c3] at e3
          injection e3 with e3
          subst e3
          rcases e4 with rfl | e4
          · rw [N.no] at hj; cases hj
          · rw [N.af j e4] at hj; cases hj
        show f _ = f _
        congr 1
        funext l2
        cases c5 : decide (l2 < n) with
        | false => rfl
        | true =>
          have c5 := of_decide_eq_true c5
          exact (hset l2 (by omega)).symm
      | p l2 o2 =>
        have hne : l2 ≠ l := fun e2 => by
          subst e2
          rcases hmen j l2 o2 e with q | ⟨q, e3, e4⟩
          · omega
          · rw [c3] at e3
            injection e3 with e3
            subst e3
            rcases e4 with rfl | e4
            · rw [N.no] at hj; cases hj
            · rw [N.af j e4] at hj; cases hj
        show Value.pointer _ = Value.pointer _
        rw [hset l2 hne]
    · rw [sv_rw, hru, c2]
      show Value.slice _ _ _ = Value.slice _ _ _
      rw [hself]
    · rw [List.length_set]; exact hC.1
    · rw [ver_free c4]
      refine Kf.alloc (l := 2 * l) hC.2 cs ty fun j => ?_
      unfold mixD
      by_cases c : j % 2 = 0
      · rw [if_pos c, if_pos c]
        by_cases d : j / 2 = l
        · rw [if_pos (by omega), d, hMl, hself]
          have : Ev.alive β0.length ct.al (upd L i) l = true := by
            unfold Ev.alive
            rw [c3, Bool.or_eq_true]
            right
            show upd L i i = true
            unfold upd
            rw [if_pos rfl]
          rw [this]
          rfl
        · rw [if_neg (by omega), hset _ d]
          have : Ev.alive β0.length ct.al (upd L i) (j / 2) = Ev.alive β0.length ct.al L (j / 2) := by
            unfold Ev.alive
            by_cases c5 : j / 2 < β0.length
            · simp [c5]
            · congr 1
              cases c6 : ct.al[j / 2 - β0.length]? with
              | none => rfl
              | some q =>
                show upd L i q = L q
                unfold upd
                rw [if_neg]
                rintro rfl
                have := (List.getElem?_inj hlt hnd).1 (c3.trans c6.symm)
                omega
          rw [this]
      · rw [if_neg c, if_neg (by omega), if_neg c]
  · exact (bad_no hk).elim
/-- A step whose outcome isn't known ahead. -/
theorem does_hole {Y : Type u} {ct : Y → Ct P} {ρ : Operand → SV} {wh : Wh} {lo : List (Nat × Array Value × TypeId)} {p : Nat} {A : Bds} {A' : Y → Bds} {v : Y → Value} {y : Y} {E : Y → Prop} (hE : E y) (hC : CD (ct y) β0 w0 F t L w) (N : ∀ y, Now ops (ct y) L i)
    (hh : ∀ w0 F R β w, (∀ x ∈ lo, ∃ k, F k = some (β.getD x.1 0, x.2)) → Kf w0 F ((sepL A).sep R) w → whStep P wh β (fun u w' => ∃ y, E y ∧ u = v y ∧ Kf w0 F ((sepL (A' y)).sep R) w') w)
    (hk : ∀ y, E y → ∀ β w, okk (holeChk ops β0.length (ct y) (anO ops) o ρ i wh lo p A (A' y) (v y) ((ct y).rw i) β w))
    (hws : ∀ y', E y' → (ct y').ws = (ct y).ws) (hal : ∀ y', E y' → (ct y').al = (ct y).al) (hM : ∀ y', E y' → (ct y').Ms.getD ((ct y).ws.idxOf i) [] = (ct y).Ms.getD ((ct y).ws.idxOf i) [])
    (hA : ∀ y', E y' → (ct y').As.getD ((ct y).ws.idxOf i) [] = (ct y).As.getD ((ct y).ws.idxOf i) []) :
    stepW P o (fun x => (ρ x).den (β0 ++ t)) (fun u w' => ∃ y', E y' ∧ u = vsD (ct y') β0 t i ∧ CD (ct y') β0 w0 F t (upd L i) w') w := by
  have q := hk y hE (β0 ++ t) w
  unfold holeChk at q
  simp only [okk_cons, okk_app] at q
  obtain ⟨q1, q2, q4, b1, b2, b3, -, -, q7⟩ := q
  injection q4 with q4
  injection b1 with b1
  injection b2 with b2
  injection b3 with b3
  rw [List.all_eq_true] at b1 b3
  have hv := (N y).ver q4
  have hC2 := hC.2
  rw [hv] at hC2
  have hlo : ∀ x ∈ lo, ∃ k, mixD (β0 ++ t) β0.length (ct y).al L ((ct y).Ms.getD ((ct y).ws.idxOf i) []) F k = some ((β0 ++ t).getD x.1 0, x.2) := fun x hx => by
    refine ⟨2 * x.1, ?_⟩
    have hlt := of_decide_eq_true (b3 x hx)
    rw [mixD_own, (N y).alive (b1 x hx), List.getElem?_eq_getElem hlt]
    have e2 := rg_map_mem b2 hx
    rw [List.getElem?_eq_getElem hlt] at e2
    have e2 : _ = x.2 := e2
    show some ((β0 ++ t).getD x.1 0, _) = _
    rw [← e2]
    rfl
  refine wh_step q1 (whStep_mono (hh w0 _ _ (β0 ++ t) w hlo (mid_in q7 hC2)) fun u w' ⟨y', hE', e, k⟩ => ⟨y', hE', ?_, ?_⟩)
  · have q := hk y' hE' (β0 ++ t) w
    unfold holeChk at q
    simp only [okk_cons, okk_app] at q
    rw [sv_rw, svIs_eq q.2.1, e]; rfl
  · have q := hk y' hE' (β0 ++ t) w
    unfold holeChk at q
    simp only [okk_cons, okk_app] at q
    obtain ⟨-, -, q4', -, -, -, q5, q6, -⟩ := q
    injection q4' with q4'
    injection q5 with q5
    injection q6 with q6
    rw [hws y' hE'] at q4' q5 q6
    have hC' : CD (ct y') β0 w0 F t L w := by
      refine ⟨by rw [hal y' hE']; exact hC.1, ?_⟩
      have := hC.2
      rw [hws y' hE', hv, hM y' hE', hA y' hE', hal y' hE']
      rw [hv] at this
      exact this
    refine hC'.write (N y') (by rw [← hws y' hE'] at q4'; rw [hws y' hE'] at q4'; rw [hws y' hE']; exact q4') q6 q5 ?_
    rw [hM y' hE', hA y' hE', hal y' hE']
    exact Kf.ofMid k
end
end Go.Proofs.YtccbdmccfbjmeaaDoor.Ev
end
