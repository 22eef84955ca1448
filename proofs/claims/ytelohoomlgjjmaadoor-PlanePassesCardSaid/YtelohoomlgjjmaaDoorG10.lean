import Derived.Test.YtelohoomlgjjmaaDoorG9
import Derived.Test.YtelohoomlgjjmaaDoorG5
set_option linter.unusedSimpArgs false
set_option linter.unusedVariables false
namespace Go.Proofs.YtelohoomlgjjmaaDoor
section
/- Up to two rows of their own types that are made and filled in one region, in whatever order; with no program in sight. -/
open Go.RowKit

structure W2 (w1 : World) (t t' : TypeId) (n n' : Nat) (x y : Array Value) (a b p q : Bool) (v7 v8 : Value) (w : World) : Prop where
  from1 : Below w1.heap.size w1 w
  p7 : a = true → PtrAt w1.heap.size t n w v7 p x
  p8 : b = true → PtrAt w1.heap.size t' n' w v8 q y
  d78 : a = true → b = true → v7 ≠ v8
  o7 : p = true → a = true
  o8 : q = true → b = true
section
variable {w1 w w' : World} {t t' : TypeId} {n n' : Nat} {x y nil : Array Value} {a b p q : Bool} {v7 v8 : Value} {g : Nat} {cs : Array Value}
theorem W2.start (w : World) : W2 w t t' n n' x y false false false false v7 v8 w.drew :=
  ⟨(Below.refl _ _).drew, (fun h => Bool.noConfusion h), (fun h => Bool.noConfusion h), (fun h => Bool.noConfusion h), (fun h => Bool.noConfusion h), (fun h => Bool.noConfusion h)⟩
theorem W2.next (h : W2 w1 t t' n n' x y a b p q v7 v8 w) (hb : Below w.heap.size w w') : W2 w1 t t' n n' x y a b p q v7 v8 w' :=
  ⟨h.from1.trans (hb.mono h.from1.size), fun hu => (h.p7 hu).below hb, fun hu => (h.p8 hu).below hb, h.d78, h.o7, h.o8⟩
theorem W2.alloc7 (h : W2 w1 t t' n n' x y a b p q v7 v8 w) (hn : nil.size = n) (hl : a = false) : W2 w1 t t' n n' x y true b p q (.pointer (some ⟨w.heap.size, 0, none⟩)) v8 (w.alloc (.cells nil t)) :=
  ⟨h.from1.alloc h.from1.size _, fun _ => ⟨w.heap.size, nil, rfl, h.from1.size, hn, Blk.new w nil t, fun hd => by rw [h.o7 hd] at hl; cases hl⟩, fun hu => (h.p8 hu).below ((Below.refl _ _).alloc (Nat.le_refl _) _), fun _ hu e => (h.p8 hu).old e.symm, fun hd => rfl, h.o8⟩
theorem W2.alloc8 (h : W2 w1 t t' n n' x y a b p q v7 v8 w) (hn : nil.size = n') (hl : b = false) : W2 w1 t t' n n' x y a true p q v7 (.pointer (some ⟨w.heap.size, 0, none⟩)) (w.alloc (.cells nil t')) :=
  ⟨h.from1.alloc h.from1.size _, fun hu => (h.p7 hu).below ((Below.refl _ _).alloc (Nat.le_refl _) _), fun _ => ⟨w.heap.size, nil, rfl, h.from1.size, hn, Blk.new w nil t', fun hd => by rw [h.o8 hd] at hl; cases hl⟩, fun hu _ e => (h.p7 hu).old e, h.o7, fun hd => rfl⟩
theorem W2.store7 (h : W2 w1 t t' n n' x y a b p q (.pointer (some ⟨g, 0, none⟩)) v8 w) (ha : a = true) (hx : x.size = n) (hk : Blk w g cs t) (hc : w1.heap.size ≤ g) : W2 w1 t t' n n' x y a b true q (.pointer (some ⟨g, 0, none⟩)) v8 (w.setRow g x) :=
  ⟨below_setRow h.from1 hc _, fun _ => ⟨g, x, rfl, hc, hx, hk.row _, fun _ => rfl⟩, fun hu => (h.p8 hu).rowOther (fun e => h.d78 ha hu e.symm), h.d78, fun _ => ha, h.o8⟩
theorem W2.store8 (h : W2 w1 t t' n n' x y a b p q v7 (.pointer (some ⟨g, 0, none⟩)) w) (ha : b = true) (hy : y.size = n') (hk : Blk w g cs t') (hc : w1.heap.size ≤ g) : W2 w1 t t' n n' x y a b p true v7 (.pointer (some ⟨g, 0, none⟩)) (w.setRow g y) :=
  ⟨below_setRow h.from1 hc _, fun hu => (h.p7 hu).rowOther (fun e => h.d78 hu ha e), fun _ => ⟨g, y, rfl, hc, hy, hk.row _, fun _ => rfl⟩, h.d78, h.o7, fun _ => ha⟩
end
theorem kb_add {w0 w : World} {l : List (Nat × Array Value × TypeId)} {b : Nat} {cs : Array Value} {t : TypeId} (K : Kb w0 l w) (hk : Blk w b cs t) (hf : ∀ x ∈ l, x.1 ≠ b) (h0 : w0.heap.size ≤ b) : Kb w0 (l ++ [(b, cs, t)]) w := by
  refine ⟨fun x hx => ?_, K.below, fun x hx => ?_, ?_⟩
  · rcases List.mem_append.1 hx with hx | hx
    · exact K.all x hx
    · rw [List.mem_singleton.1 hx]; exact hk
  · rcases List.mem_append.1 hx with hx | hx
    · exact K.new x hx
    · rw [List.mem_singleton.1 hx]; exact h0
  · rw [List.map_append, List.nodup_append]
    refine ⟨K.nd, by simp, fun x hx y hy => ?_⟩
    obtain ⟨z, hz, rfl⟩ := List.mem_map.1 hx
    have := hf z hz
    simp at hy
    omega
theorem cast_blk {w0 w : World} {l l' : List (Nat × Array Value × TypeId)} (K : Kb w0 l w) (e : l = l') : Kb w0 l' w := e ▸ K
/-- A guard that is known. -/
theorem wanted_of {ops : Array Oper} {o : Oper} {tmps : Array Value} {j d : Nat} {want b c : Bool} (ho : o.guard = some (j, want)) (hd : (ops[j]?).bind (·.dst) = some d) (ht : tmps[d]? = some (.bool b)) (hc : (b == want) = c) : Region.wanted o (yielded ops tmps) = c := by
  unfold Region.wanted yielded
  simp only [ho, hd, Option.bind_some, ht]
  rw [← hc]
  cases b <;> cases want <;> rfl
theorem wanted_of_undef {ops : Array Oper} {o : Oper} {tmps : Array Value} {j d : Nat} {want c : Bool} (ho : o.guard = some (j, want)) (hd : (ops[j]?).bind (·.dst) = some d) (ht : tmps[d]? = some undef) (hc : false = c) : Region.wanted o (yielded ops tmps) = c := by
  unfold Region.wanted yielded
  simp only [ho, hd, Option.bind_some, ht]
  rw [← hc]
  rfl
theorem i_not {P : Program} {ops : Array Oper} {Q : Exit → Act → World → Prop} {i : Nat} {o : Oper} {a : Act} {w : World} {K : Act → World → Prop} (ho : ops[i]? = some o) (hw : Region.wanted o (yielded ops a.tmps) = false) (h : K (a.put o.dst undef) w) : wpOp P ops Q i K a w := by
  unfold wpOp
  simp [ho, hw]
  exact h
end
section
/- Regions that draw their order and end in one operation that waits for all others: those read or call; no program in sight. -/
open Go.RowKit

theorem wp_region_last2 {P : Program} {ops : Array Oper} {Q : Exit → Act → World → Prop} {id : Nat} {a : Act} {w : World} (n : Nat) (I : (Nat → Bool) → Act → World → Prop) (hm : P.follows .mixedOrders = true) (hd : dag ops = true) (hc : covers ops n = true) (h0 : I (fun _ => false) a w.drew)
    (hs : ∀ i, i < n → ∀ L a w, I L a w → L i = false → (∀ j ∈ afters ops i, L j = true) → wpOp P ops Q i (fun a' w' => I (upd L i) a' w') a w)
    (hl : ∀ L a w, I L a w → (∀ i, i < n → L i = true) → wpOp P ops Q n (fun a' w' => Q .normal a' w') a w) : (Code.region id ops true).wp P Q a w := by
  unfold covers at hc
  rw [Bool.and_eq_true, beq_iff_eq, List.all_eq_true] at hc
  obtain ⟨hsz, hcov⟩ := hc
  have hall : ∀ L : Nat → Bool, (∀ i, L i = true → ∀ j ∈ afters ops i, L j = true) → (∀ j ∈ afters ops n, L j = true) → ∀ i, i < n → L i = true := fun L hdc hn i hi => by
    have := hcov i (List.mem_range.2 hi)
    exact reach_true hdc n _ hn i (by simpa using this)
  have hup : ∀ (L : Nat → Bool) (i : Nat), (∀ i, L i = true → ∀ j ∈ afters ops i, L j = true) → (∀ j ∈ afters ops i, L j = true) → ∀ k, upd L i k = true → ∀ j ∈ afters ops k, upd L i j = true := fun L i hdc ha k hk j hj => by
    have base : L j = true := by
      by_cases c : k = i
      · exact ha j (c ▸ hj)
      · unfold upd at hk
        rw [if_neg c] at hk
        exact hdc k hk j hj
    unfold upd
    split
    · rfl
    · exact base
  refine wp_region_inv (I := fun L a w' => (∀ i, L i = true → ∀ j ∈ afters ops i, L j = true) ∧ (L n = false → I L a w') ∧ (L n = true → Q .normal a w')) hm hd
    ⟨fun i h => Bool.noConfusion h, fun _ => h0, fun h => Bool.noConfusion h⟩ ?_ ?_
  · rintro i hi L a w' ⟨hdc, hA, hB⟩ hLi haft
    have hLn : L n = false ∨ L n = true := by cases L n <;> simp
    by_cases c : i = n
    · subst c
      refine wpOp_mono (fun a' w' hq => ?_) (hl L a w' (hA hLi) (hall L hdc haft))
      refine ⟨hup L i hdc haft, fun q => ?_, fun _ => hq⟩
      unfold upd at q
      rw [if_pos rfl] at q
      cases q
    · have hin : i < n := by omega
      rcases hLn with q | q
      · refine wpOp_mono (fun a' w' hq => ?_) (hs i hin L a w' (hA q) hLi haft)
        refine ⟨hup L i hdc haft, fun _ => hq, fun r => ?_⟩
        unfold upd at r
        rw [if_neg (fun e => c e.symm), q] at r
        cases r
      · have := hall L hdc (hdc n q) i hin
        rw [hLi] at this
        cases this
  · rintro L a w' ⟨hdc, hA, hB⟩ h
    exact hB (h n (by omega))
/-- .. where what has come up came up behind all for which it waits. -/
theorem wp_region_inv_dc {P : Program} {ops : Array Oper} {Q : Exit → Act → World → Prop} {id : Nat} {a : Act} {w : World} (I : (Nat → Bool) → Act → World → Prop) (hm : P.follows .mixedOrders = true) (hd : dag ops = true) (h0 : I (fun _ => false) a w.drew)
    (hstep : ∀ i, i < ops.size → ∀ L a w, I L a w → L i = false → (∀ j ∈ afters ops i, L j = true) → (∀ i, L i = true → ∀ j ∈ afters ops i, L j = true) → wpOp P ops Q i (fun a' w' => I (upd L i) a' w') a w)
    (hend : ∀ L a w, I L a w → (∀ i, i < ops.size → L i = true) → Q .normal a w) : (Code.region id ops true).wp P Q a w := by
  refine wp_region_inv (I := fun L a w => (∀ i, L i = true → ∀ j ∈ afters ops i, L j = true) ∧ I L a w) hm hd ⟨fun i h => Bool.noConfusion h, h0⟩ ?_ (fun L a w h => hend L a w h.2)
  intro i hi L a w ⟨hdc, hI⟩ hL haft
  refine wpOp_mono (fun a' w' hq => ⟨fun k hk j hj => ?_, hq⟩) (hstep i hi L a w hI hL haft hdc)
  have base : L j = true := by
    by_cases c : k = i
    · exact haft j (c ▸ hj)
    · unfold upd at hk
      rw [if_neg c] at hk
      exact hdc k hk j hj
  unfold upd
  split
  · rfl
  · exact base
end
section
/- An operation hangs on its operands alone. -/
open Go.RowKit

theorem map_congr_arr {α β : Type} {f g : α → β} {l : Array α} (h : ∀ x ∈ l, f x = g x) : l.map f = l.map g := Array.map_congr_left h
theorem exec_congr {ρ ρ' : Operand → Value} {o : Oper} (hs : ∀ cs b, o.op ≠ .select cs b) (h : ∀ x ∈ o.op.operands, ρ x = ρ' x) : execOp ρ o = execOp ρ' o := by
  obtain ⟨dst, op, type, pos, after, guard⟩ := o
  replace hs : ∀ cs b, op ≠ .select cs b := hs
  replace h : ∀ x ∈ op.operands, ρ x = ρ' x := h
  cases op
  case build t ps =>
    have e : (ps.map fun (i, x) => (i, ρ x)) = ps.map fun (i, x) => (i, ρ' x) := by
      refine map_congr_arr fun y hy => ?_
      obtain ⟨i, x⟩ := y
      have := h x (by simp [Op.operands]; exact ⟨i, hy⟩)
      simp [this]
    simp only [execOp, e]
  case buildSlice t n ps =>
    have e : (ps.map fun (i, x) => (i, ρ x)) = ps.map fun (i, x) => (i, ρ' x) := by
      refine map_congr_arr fun y hy => ?_
      obtain ⟨i, x⟩ := y
      have := h x (by simp [Op.operands]; exact ⟨i, hy⟩)
      simp [this]
    simp only [execOp, e]
  case makeFunc fn a b =>
    have e1 : a.map ρ = a.map ρ' := map_congr_arr fun x hx => h x (by simp [Op.operands, hx])
    have e2 : b.map ρ = b.map ρ' := map_congr_arr fun x hx => h x (by simp [Op.operands, hx])
    simp only [execOp, e1, e2]
  case makeMap t r =>
    cases r with
    | none => rfl
    | some r => have := h r (by simp [Op.operands]); simp [execOp, this]
  case slice t x lo hi mx =>
    have e0 := h x (by simp [Op.operands])
    have e1 : lo.map ρ = lo.map ρ' := by cases lo with | none => rfl | some r => simp [h r (by simp [Op.operands])]
    have e2 : hi.map ρ = hi.map ρ' := by cases hi with | none => rfl | some r => simp [h r (by simp [Op.operands])]
    have e3 : mx.map ρ = mx.map ρ' := by cases mx with | none => rfl | some r => simp [h r (by simp [Op.operands])]
    simp only [execOp, e0, e1, e2, e3]
  case call c =>
    have e : ∀ t, resolve ρ c t = resolve ρ' c t := fun t => by
      have e1 : c.args.map ρ = c.args.map ρ' := map_congr_arr fun x hx => h x (by simp [Op.operands, Call.operands, hx])
      unfold resolve
      cases hc : c.callee with
      | value f => simp [e1, h f (by simp [Op.operands, Call.operands, hc])]
      | invoke r m => simp [e1, h r (by simp [Op.operands, Call.operands, hc])]
      | builtin b => simp [e1]
    simp only [execOp, e]
  case go c =>
    have e : ∀ t, resolve ρ c t = resolve ρ' c t := fun t => by
      have e1 : c.args.map ρ = c.args.map ρ' := map_congr_arr fun x hx => h x (by simp [Op.operands, Call.operands, hx])
      unfold resolve
      cases hc : c.callee with
      | value f => simp [e1, h f (by simp [Op.operands, Call.operands, hc])]
      | invoke r m => simp [e1, h r (by simp [Op.operands, Call.operands, hc])]
      | builtin b => simp [e1]
    simp only [execOp, e]
  case defer c =>
    have e : ∀ t, resolve ρ c t = resolve ρ' c t := fun t => by
      have e1 : c.args.map ρ = c.args.map ρ' := map_congr_arr fun x hx => h x (by simp [Op.operands, Call.operands, hx])
      unfold resolve
      cases hc : c.callee with
      | value f => simp [e1, h f (by simp [Op.operands, Call.operands, hc])]
      | invoke r m => simp [e1, h r (by simp [Op.operands, Call.operands, hc])]
      | builtin b => simp [e1]
    simp only [execOp, e]
  case select cs b => exact absurd rfl (hs cs b)
  all_goals
    simp [Op.operands] at h
    simp [execOp, h]
end
section
/- A region as a whole: each operation over what it waits for, rgOnce, whatever the order. -/
open Go.RowKit

/-- Which operation writes a slot. -/
def wrOf (ops : Array Oper) (s : Nat) : Option Nat := (List.range ops.size).find? fun i => (ops[i]?.bind (·.dst)) == some s
/-- The slots, rgOnce these have come up. -/
def rgT (ops : Array Oper) (vs : Nat → Value) (t : Array Value) (L : Nat → Bool) : Array Value := t.mapIdx fun s old => match wrOf ops s with | some i => bif L i then vs i else old | none => old
def rgF (ops : Array Oper) (vs : Nat → Value) (a : Act) (L : Nat → Bool) : Act := { a with tmps := rgT ops vs a.tmps L }
/-- Each slot is written rgOnce, within the frame. -/
def rgOnce (ops : Array Oper) (n : Nat) : Bool := (List.range ops.size).all fun i => match ops[i]?.bind (·.dst) with | some s => (wrOf ops s == some i) && decide (s < n) | none => true
section
variable {ops : Array Oper} {vs : Nat → Value} {a : Act} {L : Nat → Bool} {i s : Nat} {o : Oper}
theorem wr_some (h : wrOf ops s = some i) : ∃ o, ops[i]? = some o ∧ o.dst = some s := by
  have q := List.find?_some h
  have q : ((ops[i]?.bind (·.dst)) == some s) = true := q
  rw [beq_iff_eq] at q
  cases c : ops[i]? with
  | none => rw [c] at q; cases q
  | some o => rw [c] at q; exact ⟨o, rfl, q⟩
theorem rgOnce_at {n : Nat} (h : rgOnce ops n = true) (ho : ops[i]? = some o) (hd : o.dst = some s) : wrOf ops s = some i ∧ s < n := by
  unfold rgOnce at h
  rw [List.all_eq_true] at h
  have q := h i (List.mem_range.2 (Array.getElem?_eq_some_iff.1 ho).1)
  rw [ho] at q
  simp only [Option.bind_some, hd] at q
  rw [Bool.and_eq_true, beq_iff_eq, decide_eq_true_iff] at q
  exact q
theorem rgT_at (t : Array Value) (k : Nat) : (rgT ops vs t L)[k]? = (t[k]?).map fun old => match wrOf ops k with | some i => bif L i then vs i else old | none => old := by
  unfold rgT
  rw [Array.getElem?_mapIdx]
theorem rgF_none : rgF ops vs a (fun _ => false) = a := by
  unfold rgF
  have e : rgT ops vs a.tmps (fun _ => false) = a.tmps := by
    refine Array.ext_getElem? fun k => ?_
    rw [rgT_at]
    cases a.tmps[k]? with
    | none => rfl
    | some v =>
      show some _ = some v
      congr 1
      split <;> rfl
  rw [e]
theorem rgF_put (h : rgOnce ops a.tmps.size = true) (ho : ops[i]? = some o) : (rgF ops vs a L).put o.dst (vs i) = rgF ops vs a (upd L i) := by
  cases hd : o.dst with
  | none =>
    show rgF ops vs a L = _
    unfold rgF
    have e : rgT ops vs a.tmps L = rgT ops vs a.tmps (upd L i) := by
      refine Array.ext_getElem? fun k => ?_
      rw [rgT_at, rgT_at]
      congr 1
      funext old
      cases c : wrOf ops k with
      | none => rfl
      | some j =>
        obtain ⟨o2, h1, h2⟩ := wr_some c
        have hj : j ≠ i := fun e => by subst e; rw [ho] at h1; injection h1 with h1; subst h1; rw [hd] at h2; cases h2
        show (bif L j then _ else _) = bif upd L i j then _ else _
        unfold upd
        rw [if_neg hj]
    rw [e]
  | some s =>
    obtain ⟨hw, hs⟩ := rgOnce_at h ho hd
    show ({ rgF ops vs a L with tmps := (rgT ops vs a.tmps L).setIfInBounds s (vs i) } : Act) = _
    unfold rgF
    have e : (rgT ops vs a.tmps L).setIfInBounds s (vs i) = rgT ops vs a.tmps (upd L i) := by
      refine Array.ext_getElem? fun k => ?_
      rw [Array.getElem?_setIfInBounds, rgT_at, rgT_at]
      by_cases c : s = k
      · subst c
        have hsz : s < (rgT ops vs a.tmps L).size := by unfold rgT; rw [Array.size_mapIdx]; exact hs
        rw [if_pos rfl, if_pos hsz, Array.getElem?_eq_getElem hs, hw]
        show some (vs i) = some (bif upd L i i then vs i else _)
        unfold upd
        rw [if_pos rfl]
        rfl
      · rw [if_neg c]
        congr 1
        funext old
        cases c2 : wrOf ops k with
        | none => rfl
        | some j =>
          obtain ⟨o2, h1, h2⟩ := wr_some c2
          have hj : j ≠ i := fun e => by subst e; rw [ho] at h1; injection h1 with h1; subst h1; rw [hd] at h2; injection h2 with h2; exact c h2
          show (bif L j then _ else _) = bif upd L i j then _ else _
          unfold upd
          rw [if_neg hj]
    rw [e]
/-- What operation i sees: what it waits for has come up, nothing else. -/
def view (ops : Array Oper) (vs : Nat → Value) (a : Act) (i : Nat) : Operand → Value
  | .tmp u => match wrOf ops u with | some j => bif (afters ops i).contains j then vs j else a.tmps.getD u undef | none => a.tmps.getD u undef
  | x => a.eval x
def depOk (ops : Array Oper) (i : Nat) : Operand → Bool
  | .tmp u => match wrOf ops u with | some j => (afters ops i).contains j || (afters ops j).contains i || decide (j = i) | none => true
  | _ => true
def depsOk (ops : Array Oper) : Bool := (List.range ops.size).all fun i => match ops[i]? with | some o => o.op.operands.toList.all (depOk ops i) | none => true
theorem view_eq (hn : rgOnce ops a.tmps.size = true) (hd : depsOk ops = true) (ho : ops[i]? = some o) (hL : L i = false) (ha : ∀ j ∈ afters ops i, L j = true) (hc : ∀ k, L k = true → ∀ j ∈ afters ops k, L j = true) {x : Operand} (hx : x ∈ o.op.operands) : (rgF ops vs a L).eval x = view ops vs a i x := by
  unfold depsOk at hd
  rw [List.all_eq_true] at hd
  have q := hd i (List.mem_range.2 (Array.getElem?_eq_some_iff.1 ho).1)
  rw [ho] at q
  have q : o.op.operands.toList.all (depOk ops i) = true := q
  rw [List.all_eq_true] at q
  have q := q x (by simpa using hx)
  cases x with
  | tmp u =>
    show (rgT ops vs a.tmps L).getD u undef = (match wrOf ops u with | some j => bif (afters ops i).contains j then vs j else a.tmps.getD u undef | none => a.tmps.getD u undef)
    have q : (match wrOf ops u with | some j => (afters ops i).contains j || (afters ops j).contains i || decide (j = i) | none => true) = true := q
    rw [Array.getD_eq_getD_getElem?, rgT_at]
    cases c : wrOf ops u with
    | none => simp [Array.getD_eq_getD_getElem?]
    | some j =>
      rw [c] at q
      obtain ⟨o2, h1, h2⟩ := wr_some c
      have hu : u < a.tmps.size := (rgOnce_at hn h1 h2).2
      rw [Array.getElem?_eq_getElem hu]
      show (bif L j then vs j else a.tmps[u]) = bif (afters ops i).contains j then vs j else a.tmps.getD u undef
      have hg : a.tmps.getD u undef = a.tmps[u] := by simp [Array.getD_eq_getD_getElem?, hu]
      rw [hg]
      cases c1 : (afters ops i).contains j with
      | true => rw [ha j (by simpa using c1)]
      | false =>
        have hj : L j = false := by
          cases c2 : L j with
          | false => rfl
          | true =>
            have q : ((afters ops i).contains j || (afters ops j).contains i || decide (j = i)) = true := q
            rw [c1] at q
            simp at q
            rcases q with q | q
            · have := hc j c2 i q; rw [hL] at this; cases this
            · subst q; rw [hL] at c2; cases c2
        rw [hj]
  | _ => rfl
end
end
section
/- A region as a whole: the law. -/
open Go.RowKit

/-- Is it wanted, by the final values. -/
def wantV (vs : Nat → Value) (o : Oper) : Bool := match o.guard with | none => true | some (j, want) => match vs j with | .bool b => b == want | _ => false
def guardOk (ops : Array Oper) (i : Nat) : Bool := match ops[i]? with | some o => (match o.guard with | none => true | some (j, _) => (afters ops i).contains j && (ops[j]?.bind (·.dst)).isSome) | none => true
def guardsOk (ops : Array Oper) : Bool := (List.range ops.size).all (guardOk ops)
def isSel : Op → Bool | .select _ _ => true | _ => false
def noSel (ops : Array Oper) : Bool := ops.all fun o => !isSel o.op
/-- What an operation must answer over what it sees. -/
def stepV (P : Program) (o : Oper) (ρ : Operand → Value) (v : Value) (K : World → Prop) (w : World) : Prop :=
  match (execOp ρ o).run P w with
  | .ok (.value u) w' => u = v ∧ K w'
  | .ok .skip w' => undef = v ∧ K w'
  | .ok (.enter f args) w' => Calls P f args w' fun e w'' => e = .returned v ∧ K w''
  | .ok (.row row args) w' => Rows P row args w' fun u w'' => u = v ∧ K w''
  | _ => False
section
variable {P : Program} {ops : Array Oper} {vs : Nat → Value} {a : Act} {L : Nat → Bool} {i : Nat} {o : Oper} {w : World} {Q : Exit → Act → World → Prop}
theorem wanted_rgF (hn : rgOnce ops a.tmps.size = true) (hg : guardsOk ops = true) (ho : ops[i]? = some o) (ha : ∀ j ∈ afters ops i, L j = true) : Region.wanted o (yielded ops (rgF ops vs a L).tmps) = wantV vs o := by
  unfold guardsOk at hg
  rw [List.all_eq_true] at hg
  have q := hg i (List.mem_range.2 (Array.getElem?_eq_some_iff.1 ho).1)
  unfold guardOk at q
  rw [ho] at q
  unfold Region.wanted wantV
  cases c : o.guard with
  | none => rfl
  | some g =>
    obtain ⟨j, want⟩ := g
    have q : (match o.guard with | none => true | some (j, _) => (afters ops i).contains j && (ops[j]?.bind (·.dst)).isSome) = true := q
    rw [c] at q
    have q : ((afters ops i).contains j && (ops[j]?.bind (·.dst)).isSome) = true := q
    rw [Bool.and_eq_true] at q
    obtain ⟨q1, q2⟩ := q
    have hj := ha j (by simpa using q1)
    obtain ⟨d, hd⟩ := Option.isSome_iff_exists.1 q2
    cases c2 : ops[j]? with
    | none => rw [c2] at hd; cases hd
    | some o2 =>
      rw [c2] at hd
      obtain ⟨h1, h2⟩ := rgOnce_at hn c2 hd
      have e : (rgT ops vs a.tmps L)[d]? = some (vs j) := by
        rw [rgT_at, Array.getElem?_eq_getElem h2, h1]
        show some (bif L j then _ else _) = _
        rw [hj]
        rfl
      show (yielded ops (rgT ops vs a.tmps L) j == some want) = match vs j with | .bool b => b == want | _ => false
      unfold yielded
      rw [c2, hd]
      show ((match (rgT ops vs a.tmps L)[d]? with | some (.bool b) => some b | _ => none) == some want) = _
      rw [e]
      cases vs j <;> first | rfl | (rename_i b; cases b <;> cases want <;> rfl)
theorem rgF_all {L' : Nat → Bool} (h : ∀ i, i < ops.size → L i = L' i) : rgF ops vs a L = rgF ops vs a L' := by
  unfold rgF
  have e : rgT ops vs a.tmps L = rgT ops vs a.tmps L' := by
    refine Array.ext_getElem? fun k => ?_
    rw [rgT_at, rgT_at]
    congr 1
    funext old
    cases c : wrOf ops k with
    | none => rfl
    | some j =>
      obtain ⟨o2, h1, h2⟩ := wr_some c
      show (bif L j then _ else _) = bif L' j then _ else _
      rw [h j (Array.getElem?_eq_some_iff.1 h1).1]
  rw [e]
/-- One step. -/
theorem step_view (C : (Nat → Bool) → World → Prop) (hn : rgOnce ops a.tmps.size = true) (hdep : depsOk ops = true) (hg : guardsOk ops = true) (hsel : noSel ops = true)
    (hstep : ∀ i o, ops[i]? = some o → ∀ L w, C L w → L i = false → (∀ j ∈ afters ops i, L j = true) → if wantV vs o then stepV P o (view ops vs a i) (vs i) (fun w' => C (upd L i) w') w else undef = vs i ∧ C (upd L i) w)
    (hi : i < ops.size) {w' : World} (hC : C L w') (hL : L i = false) (ha : ∀ j ∈ afters ops i, L j = true) (hdc : ∀ i, L i = true → ∀ j ∈ afters ops i, L j = true) : wpOp P ops Q i (fun a' w' => a' = rgF ops vs a (upd L i) ∧ C (upd L i) w') (rgF ops vs a L) w' := by
  have ho : ops[i]? = some ops[i] := Array.getElem?_eq_getElem hi
  generalize ops[i] = o at ho
  have hS := hstep i o ho L w' hC hL ha
  have hW := wanted_rgF (L := L) (vs := vs) hn hg ho ha
  cases c : wantV vs o with
  | false =>
    rw [c] at hS hW
    obtain ⟨e, hK⟩ := hS
    refine i_not ho hW ⟨?_, hK⟩
    rw [← rgF_put hn ho, ← e]
  | true =>
    rw [c] at hS hW
    have hS : stepV P o (view ops vs a i) (vs i) (fun w' => C (upd L i) w') w' := hS
    refine i_wp ho hW ?_
    have hns : ∀ cs b, o.op ≠ .select cs b := fun cs b e => by
      unfold noSel at hsel
      rw [Array.all_eq_true] at hsel
      have := hsel i hi
      rw [Array.getElem?_eq_getElem hi] at ho
      injection ho with ho
      rw [ho, e] at this
      cases this
    have ee : execOp (rgF ops vs a L).eval o = execOp (view ops vs a i) o := exec_congr hns fun x hx => view_eq hn hdep ho hL ha hdc hx
    have hput := rgF_put (L := L) (vs := vs) hn ho
    unfold Oper.wp
    rw [ee]
    unfold stepV at hS
    revert hS
    generalize (execOp (view ops vs a i) o).run P w' = r
    intro hS
    cases r with
    | halt x w2 => exact False.elim hS
    | ok n w2 =>
      cases n <;> first | exact False.elim hS | skip
      case value u =>
        obtain ⟨e, hK⟩ := hS
        subst e
        exact ⟨hput, hK⟩
      case skip =>
        obtain ⟨e, hK⟩ := hS
        refine ⟨?_, hK⟩
        rw [← hput, ← e]
      case enter f args =>
        exact Calls.mono hS fun e w3 h => by
          obtain ⟨rfl, hK⟩ := h
          exact ⟨hput, hK⟩
      case row row args =>
        exact Rows.mono hS fun u w3 h => by
          obtain ⟨e, hK⟩ := h
          subst e
          exact ⟨hput, hK⟩
theorem region_view {id : Nat} (vs : Nat → Value) (C : (Nat → Bool) → World → Prop) (hm : P.follows .mixedOrders = true) (hd : dag ops = true) (hn : rgOnce ops a.tmps.size = true) (hdep : depsOk ops = true) (hg : guardsOk ops = true) (hsel : noSel ops = true) (h0 : C (fun _ => false) w.drew)
    (hstep : ∀ i o, ops[i]? = some o → ∀ L w, C L w → L i = false → (∀ j ∈ afters ops i, L j = true) → if wantV vs o then stepV P o (view ops vs a i) (vs i) (fun w' => C (upd L i) w') w else undef = vs i ∧ C (upd L i) w)
    (hend : ∀ L w, C L w → (∀ i, i < ops.size → L i = true) → Q .normal (rgF ops vs a fun _ => true) w) : (Code.region id ops true).wp P Q a w := by
  refine wp_region_inv_dc (I := fun L a' w' => a' = rgF ops vs a L ∧ C L w') hm hd ⟨rgF_none.symm, h0⟩ ?_ ?_
  · rintro i hi L a' w' ⟨ea, hC⟩ hL ha hdc
    subst ea
    exact step_view C hn hdep hg hsel hstep hi hC hL ha hdc
  · rintro L a' w' ⟨ea, hC⟩ hall
    rw [ea, rgF_all (L' := fun _ => true) hall]
    exact hend L w' hC hall
/-- A region in the text's order. -/
def textOk (ops : Array Oper) : Bool := (List.range ops.size).all fun i => (afters ops i).all fun j => decide (j < i)
theorem upd_lt (k : Nat) : upd (fun j => decide (j < k)) k = fun j => decide (j < k + 1) := by
  funext j
  unfold upd
  split
  · subst_vars; simp
  · rw [Bool.eq_iff_iff]; simp; omega
theorem region_view_lit {id : Nat} (vs : Nat → Value) (C : (Nat → Bool) → World → Prop) (ht : textOk ops = true) (hn : rgOnce ops a.tmps.size = true) (hdep : depsOk ops = true) (hg : guardsOk ops = true) (hsel : noSel ops = true) (h0 : C (fun _ => false) w)
    (hstep : ∀ i o, ops[i]? = some o → ∀ L w, C L w → L i = false → (∀ j ∈ afters ops i, L j = true) → if wantV vs o then stepV P o (view ops vs a i) (vs i) (fun w' => C (upd L i) w') w else undef = vs i ∧ C (upd L i) w)
    (hend : ∀ L w, C L w → (∀ i, i < ops.size → L i = true) → Q .normal (rgF ops vs a fun _ => true) w) : (Code.region id ops false).wp P Q a w := by
  unfold textOk at ht
  rw [List.all_eq_true] at ht
  have haft : ∀ k, ∀ j ∈ afters ops k, j < k := fun k j hj => by
    by_cases c : k < ops.size
    · have q := ht k (List.mem_range.2 c)
      rw [List.all_eq_true] at q
      simpa using q j hj
    · have e : ops[k]? = none := Array.getElem?_eq_none (by omega)
      unfold afters at hj
      rw [e] at hj
      simp at hj
  refine wp_region ?_
  rw [List.range_eq_range']
  have key : ∀ m k w, k + m = ops.size → C (fun j => decide (j < k)) w → wpOps P ops Q (List.range' k m) (rgF ops vs a fun j => decide (j < k)) w := by
    intro m
    induction m with
    | zero =>
      intro k w hk hC
      show Q .normal _ w
      rw [rgF_all (L' := fun _ => true) (fun i hi => by simp; omega)]
      exact hend _ w hC fun i hi => by simp; omega
    | succ m ih =>
      intro k w hk hC
      rw [List.range'_succ, wpOps_cons]
      refine wpOp_mono (fun a' w' hq => ?_) (step_view C hn hdep hg hsel hstep (by omega) hC (by simp) (fun j hj => by simpa using haft k j hj) (fun i hi j hj => by have := haft i j hj; simp at hi ⊢; omega))
      obtain ⟨rfl, hq⟩ := hq
      rw [upd_lt] at hq ⊢
      exact ih (k + 1) w' (by omega) hq
  have := key ops.size 0 w (by omega) (by simpa using h0)
  have e : rgF ops vs a (fun j => decide (j < 0)) = a := by
    rw [show (fun j => decide (j < 0)) = fun _ : Nat => false from by funext j; simp]
    exact rgF_none
  rw [e] at this
  exact this
end
end
section
/- A region as a whole: pure operations and unwanted ones all at rgOnce. -/
open Go.RowKit

def outV (P : Program) (ops : Array Oper) (vs : Nat → Value) (a : Act) (w : World) (i : Nat) : Result Next := match ops[i]? with | some o => (execOp (view ops vs a i) o).run P w | none => .ok .skip w
def ansV (vs : Nat → Value) (w : World) (i : Nat) : Result Next := .ok (.value (vs i)) w
def wantI (ops : Array Oper) (vs : Nat → Value) (i : Nat) : Bool := match ops[i]? with | some o => wantV vs o | none => true
section
variable {P : Program} {ops : Array Oper} {vs : Nat → Value} {a : Act} {L : Nat → Bool} {i : Nat} {o : Oper} {w : World} {Q : Exit → Act → World → Prop}
theorem rg_map_at {α : Type} {f g : Nat → α} : ∀ {l : List Nat} (h : l.map f = l.map g) {i : Nat}, i ∈ l → f i = g i
  | x :: l, h, i, hi => by
    simp only [List.map_cons, List.cons.injEq] at h
    rcases List.mem_cons.1 hi with rfl | hi
    · exact h.1
    · exact rg_map_at h.2 hi
/-- The steps: pure ones (ps), unwanted ones (qs), the rest (rs) one by one. -/
theorem steps_of (C : (Nat → Bool) → World → Prop) (ps qs rs : List Nat)
    (hcov : (List.range ops.size).all (fun i => ps.contains i || qs.contains i || rs.contains i) = true)
    (hpw : ps.map (wantI ops vs) = ps.map fun _ => true) (hp : ∀ w, ps.map (outV P ops vs a w) = ps.map (ansV vs w))
    (hqw : qs.map (wantI ops vs) = qs.map fun _ => false) (hq : qs.map vs = qs.map fun _ => undef)
    (hC : ∀ i, i ∈ ps ∨ i ∈ qs → ∀ L w, C L w → C (upd L i) w)
    (hr : ∀ i, i ∈ rs → ∀ L w, C L w → L i = false → (∀ j ∈ afters ops i, L j = true) → wantI ops vs i = true ∧ ∀ o, ops[i]? = some o → stepV P o (view ops vs a i) (vs i) (fun w' => C (upd L i) w') w) :
    ∀ i o, ops[i]? = some o → ∀ L w, C L w → L i = false → (∀ j ∈ afters ops i, L j = true) → if wantV vs o then stepV P o (view ops vs a i) (vs i) (fun w' => C (upd L i) w') w else undef = vs i ∧ C (upd L i) w := by
  intro i o ho L w hc hL ha
  rw [List.all_eq_true] at hcov
  have q := hcov i (List.mem_range.2 (Array.getElem?_eq_some_iff.1 ho).1)
  have ew : wantI ops vs i = wantV vs o := by unfold wantI; rw [ho]
  rw [Bool.or_eq_true, Bool.or_eq_true, List.contains_iff_mem, List.contains_iff_mem, List.contains_iff_mem] at q
  rcases q with (q | q) | q
  · have e1 := rg_map_at hpw q
    have e2 := rg_map_at (hp w) q
    rw [ew] at e1
    rw [if_pos e1]
    unfold outV ansV at e2
    rw [ho] at e2
    have e2 : (execOp (view ops vs a i) o).run P w = .ok (.value (vs i)) w := e2
    unfold stepV
    rw [e2]
    exact ⟨rfl, hC i (.inl q) L w hc⟩
  · have e1 : wantI ops vs i = false := rg_map_at hqw q
    have e2 : vs i = undef := rg_map_at hq q
    rw [ew] at e1
    rw [e1]
    exact ⟨e2.symm, hC i (.inr q) L w hc⟩
  · obtain ⟨e1, h⟩ := hr i q L w hc hL ha
    rw [ew] at e1
    rw [if_pos e1]
    exact h o ho
theorem stepV_val {ρ : Operand → Value} {v : Value} {K : World → Prop} (h : (execOp ρ o).run P w = .ok (.value v) w) (hK : K w) : stepV P o ρ v K w := by
  unfold stepV
  rw [h]
  exact ⟨rfl, hK⟩
theorem stepV_load {ρ : Operand → Value} {v : Value} {K : World → Prop} {ty : TypeId} {x : Operand} {p : Addr} (ho : o.op = .load ty x) (hx : ρ x = .pointer (some p)) (hl : (Instr.loadAt ty (.pointer (some p))).run P w = .ok v w) (hK : K w) : stepV P o ρ v K w := by
  refine stepV_val ?_ hK
  unfold execOp
  simp only [ho, hx, Sem.run_bind, Sem.run_pure, hl, Result.andThen]
/-- The whole of a region that draws its order, with its last frame. -/
theorem region_whole {id : Nat} {a' : Act} (vs : Nat → Value) (C : (Nat → Bool) → World → Prop) (hm : P.follows .mixedOrders = true) (hd : dag ops = true) (hn : rgOnce ops a.tmps.size = true) (hdep : depsOk ops = true) (hg : guardsOk ops = true) (hsel : noSel ops = true) (hfin : rgF ops vs a (fun _ => true) = a') (h0 : C (fun _ => false) w.drew)
    (hstep : ∀ i o, ops[i]? = some o → ∀ L w, C L w → L i = false → (∀ j ∈ afters ops i, L j = true) → if wantV vs o then stepV P o (view ops vs a i) (vs i) (fun w' => C (upd L i) w') w else undef = vs i ∧ C (upd L i) w)
    (hend : ∀ L w, C L w → (∀ i, i < ops.size → L i = true) → Q .normal a' w) : (Code.region id ops true).wp P Q a w :=
  region_view vs C hm hd hn hdep hg hsel h0 hstep (hfin ▸ hend)
theorem region_whole_lit {id : Nat} {a' : Act} (vs : Nat → Value) (C : (Nat → Bool) → World → Prop) (ht : textOk ops = true) (hn : rgOnce ops a.tmps.size = true) (hdep : depsOk ops = true) (hg : guardsOk ops = true) (hsel : noSel ops = true) (hfin : rgF ops vs a (fun _ => true) = a') (h0 : C (fun _ => false) w)
    (hstep : ∀ i o, ops[i]? = some o → ∀ L w, C L w → L i = false → (∀ j ∈ afters ops i, L j = true) → if wantV vs o then stepV P o (view ops vs a i) (vs i) (fun w' => C (upd L i) w') w else undef = vs i ∧ C (upd L i) w)
    (hend : ∀ L w, C L w → (∀ i, i < ops.size → L i = true) → Q .normal a' w) : (Code.region id ops false).wp P Q a w :=
  region_view_lit vs C ht hn hdep hg hsel h0 hstep (hfin ▸ hend)
end
end
section
/- A region as a whole: loads of known cells all at once. -/
open Go.RowKit

def plainT : Option TypeDesc → Bool | some (.struct _) => false | some (.array _ _) => false | some _ => true | none => false
/-- Which cell an operation loads. -/
def ldAt (P : Program) (ops : Array Oper) (vs : Nat → Value) (a : Act) (i : Nat) : Bool × Value := match ops[i]? with | some o => (match o.op with | .load ty x => (plainT (P.underlying ty), view ops vs a i x) | _ => (false, undef)) | none => (false, undef)
/-- All of them hold what is loaded. -/
def cellsAt (w : World) (vs : Nat → Value) : List (Nat × Addr) → Prop | [] => True | (i, p) :: l => w.cell? p = some (vs i) ∧ cellsAt w vs l
section
variable {P : Program} {ops : Array Oper} {vs : Nat → Value} {a : Act} {L : Nat → Bool} {i : Nat} {o : Oper} {w : World} {Q : Exit → Act → World → Prop}
theorem cellsAt_mem : ∀ {l : List (Nat × Addr)} (h : cellsAt w vs l) {e : Nat × Addr}, e ∈ l → w.cell? e.2 = some (vs e.1)
  | (j, p) :: l, h, e, he => by
    rcases List.mem_cons.1 he with rfl | he
    · exact h.1
    · exact cellsAt_mem h.2 he
theorem run_loadAt_cell {ty : TypeId} {p : Addr} {v : Value} (hu : plainT (P.underlying ty) = true) (hc : w.cell? p = some v) : (Instr.loadAt ty (.pointer (some p))).run P w = .ok v w := by
  cases c : P.underlying ty with
  | none => rw [c] at hu; cases hu
  | some d =>
    rw [c] at hu
    cases d <;> first | (cases hu; done) | (simp [Instr.loadAt, Instr.sureAddr, loadVar, isAgg, underlying, c, hc, Result.andThen])
theorem rg_map_mem {α β : Type} {f g : α → β} : ∀ {l : List α} (h : l.map f = l.map g) {i : α}, i ∈ l → f i = g i
  | x :: l, h, i, hi => by
    simp only [List.map_cons, List.cons.injEq] at h
    rcases List.mem_cons.1 hi with rfl | hi
    · exact h.1
    · exact rg_map_mem h.2 hi
/-- The steps: pure ones (ps), unwanted ones (qs), loads of known cells (ls), the rest (rs) one by one. -/
theorem steps_of2 (C : (Nat → Bool) → World → Prop) (ps qs : List Nat) (ls : List (Nat × Addr)) (rs : List Nat)
    (hcov : (List.range ops.size).all (fun i => ps.contains i || qs.contains i || ((ls.map Prod.fst) ++ rs).contains i) = true)
    (hpw : ps.map (wantI ops vs) = ps.map fun _ => true) (hp : ∀ w, ps.map (outV P ops vs a w) = ps.map (ansV vs w))
    (hqw : qs.map (wantI ops vs) = qs.map fun _ => false) (hq : qs.map vs = qs.map fun _ => undef)
    (hlw : ls.map (fun e => wantI ops vs e.1) = ls.map fun _ => true) (hl : ls.map (fun e => ldAt P ops vs a e.1) = ls.map fun e => (true, .pointer (some e.2)))
    (hc : ∀ L w, C L w → cellsAt w vs ls)
    (hC : ∀ i, i ∈ ps ∨ i ∈ qs ∨ i ∈ ls.map Prod.fst → ∀ L w, C L w → C (upd L i) w)
    (hr : ∀ i, i ∈ rs → ∀ L w, C L w → L i = false → (∀ j ∈ afters ops i, L j = true) → wantI ops vs i = true ∧ ∀ o, ops[i]? = some o → stepV P o (view ops vs a i) (vs i) (fun w' => C (upd L i) w') w) :
    ∀ i o, ops[i]? = some o → ∀ L w, C L w → L i = false → (∀ j ∈ afters ops i, L j = true) → if wantV vs o then stepV P o (view ops vs a i) (vs i) (fun w' => C (upd L i) w') w else undef = vs i ∧ C (upd L i) w := by
  refine steps_of C ps qs (ls.map Prod.fst ++ rs) hcov hpw hp hqw hq (fun i h => hC i (h.imp id .inl)) ?_
  intro i hi L w hw hL ha
  rcases List.mem_append.1 hi with h | h
  · obtain ⟨e, he, rfl⟩ := List.mem_map.1 h
    refine ⟨rg_map_mem hlw he, fun o ho => ?_⟩
    have q := rg_map_mem hl he
    unfold ldAt at q
    rw [ho] at q
    have q : (match o.op with | .load ty x => (plainT (P.underlying ty), view ops vs a e.1 x) | _ => (false, undef)) = (true, .pointer (some e.2)) := q
    split at q
    · next ty x hop =>
      injection q with q1 q2
      exact stepV_load hop q2 (run_loadAt_cell q1 (cellsAt_mem (hc L w hw) he)) (hC e.1 (.inr (.inr h)) L w hw)
    · injection q with q1 q2
      cases q1
  · exact hr i h L w hw hL ha
end
end
section
/- A region as a whole, where some values come up while it runs (blocks made, answers of calls). -/
open Go.RowKit

/-- What an operation answers, whatever it is. -/
def stepW (P : Program) (o : Oper) (ρ : Operand → Value) (K : Value → World → Prop) (w : World) : Prop :=
  match (execOp ρ o).run P w with
  | .ok (.value u) w' => K u w'
  | .ok .skip w' => K undef w'
  | .ok (.enter f args) w' => Calls P f args w' fun e w'' => ∃ u, e = .returned u ∧ K u w''
  | .ok (.row row args) w' => Rows P row args w' fun u w'' => K u w''
  | _ => False
section
variable {P : Program} {ops : Array Oper} {a : Act} {L : Nat → Bool} {i : Nat} {o : Oper} {w : World} {Q : Exit → Act → World → Prop} {σ : Type}
theorem stepW_of {ρ : Operand → Value} {v : Value} {K : World → Prop} {K' : Value → World → Prop} (h : stepV P o ρ v K w) (hk : ∀ w, K w → K' v w) : stepW P o ρ K' w := by
  unfold stepV at h
  unfold stepW
  revert h
  generalize (execOp ρ o).run P w = r
  intro h
  cases r with
  | halt x w2 => exact False.elim h
  | ok n w2 =>
    cases n <;> first | exact False.elim h | skip
    case value u => obtain ⟨e, h⟩ := h; subst e; exact hk _ h
    case skip => obtain ⟨e, h⟩ := h; subst e; exact hk _ h
    case enter f args => exact Calls.mono h fun e w3 q => ⟨v, q.1, hk _ q.2⟩
    case row row args => exact Rows.mono h fun u w3 q => by obtain ⟨e, q⟩ := q; subst e; exact hk _ q
theorem rgF_agree {vs vs' : Nat → Value} (h : ∀ j, L j = true → vs j = vs' j) : rgF ops vs a L = rgF ops vs' a L := by
  unfold rgF
  have e : rgT ops vs a.tmps L = rgT ops vs' a.tmps L := by
    refine Array.ext_getElem? fun k => ?_
    rw [rgT_at, rgT_at]
    congr 1
    funext old
    cases c : wrOf ops k with
    | none => rfl
    | some j =>
      show (bif L j then _ else _) = bif L j then _ else _
      cases c2 : L j with
      | false => rfl
      | true => exact h j c2
  rw [e]
theorem step_holes (vs : σ → Nat → Value) (C : σ → (Nat → Bool) → World → Prop) (hn : rgOnce ops a.tmps.size = true) (hdep : depsOk ops = true) (hg : guardsOk ops = true) (hsel : noSel ops = true)
    (hstep : ∀ i o, ops[i]? = some o → ∀ s L w, C s L w → L i = false → (∀ j ∈ afters ops i, L j = true) → (∀ i, L i = true → ∀ j ∈ afters ops i, L j = true) → if wantV (vs s) o then stepW P o (view ops (vs s) a i) (fun u w' => ∃ s', (∀ j, L j = true → vs s j = vs s' j) ∧ u = vs s' i ∧ C s' (upd L i) w') w else undef = vs s i ∧ C s (upd L i) w)
    (hi : i < ops.size) {s : σ} {w' : World} (hC : C s L w') (hL : L i = false) (ha : ∀ j ∈ afters ops i, L j = true) (hdc : ∀ i, L i = true → ∀ j ∈ afters ops i, L j = true) : wpOp P ops Q i (fun a' w' => ∃ s, a' = rgF ops (vs s) a (upd L i) ∧ C s (upd L i) w') (rgF ops (vs s) a L) w' := by
  have ho : ops[i]? = some ops[i] := Array.getElem?_eq_getElem hi
  generalize ops[i] = o at ho
  have hS := hstep i o ho s L w' hC hL ha hdc
  have hW := wanted_rgF (L := L) (vs := vs s) hn hg ho ha
  cases c : wantV (vs s) o with
  | false =>
    rw [c] at hS hW
    obtain ⟨e, hK⟩ := hS
    refine i_not ho hW ⟨s, ?_, hK⟩
    rw [← rgF_put hn ho, ← e]
  | true =>
    rw [c] at hS hW
    have hS : stepW P o (view ops (vs s) a i) (fun u w' => ∃ s', (∀ j, L j = true → vs s j = vs s' j) ∧ u = vs s' i ∧ C s' (upd L i) w') w' := hS
    refine i_wp ho hW ?_
    have hns : ∀ cs b, o.op ≠ .select cs b := fun cs b e => by
      unfold noSel at hsel
      rw [Array.all_eq_true] at hsel
      have := hsel i hi
      rw [Array.getElem?_eq_getElem hi] at ho
      injection ho with ho
      rw [ho, e] at this
      cases this
    have ee : execOp (rgF ops (vs s) a L).eval o = execOp (view ops (vs s) a i) o := exec_congr hns fun x hx => view_eq hn hdep ho hL ha hdc hx
    have hput : ∀ {u : Value} {w3 : World}, (∃ s', (∀ j, L j = true → vs s j = vs s' j) ∧ u = vs s' i ∧ C s' (upd L i) w3) → ∃ s', (rgF ops (vs s) a L).put o.dst u = rgF ops (vs s') a (upd L i) ∧ C s' (upd L i) w3 := fun ⟨s', h1, h2, h3⟩ => by
      refine ⟨s', ?_, h3⟩
      rw [rgF_agree h1, h2]
      exact rgF_put hn ho
    unfold Oper.wp
    rw [ee]
    unfold stepW at hS
    revert hS
    generalize (execOp (view ops (vs s) a i) o).run P w' = r
    intro hS
    cases r with
    | halt x w2 => exact False.elim hS
    | ok n w2 =>
      cases n <;> first | exact False.elim hS | skip
      case value u => exact hput hS
      case skip => exact hput hS
      case enter f args =>
        exact Calls.mono hS fun e w3 h => by
          obtain ⟨u, rfl, hK⟩ := h
          exact hput hK
      case row row args => exact Rows.mono hS fun u w3 h => hput h
theorem region_holes {id : Nat} (vs : σ → Nat → Value) (C : σ → (Nat → Bool) → World → Prop) (s0 : σ) (hm : P.follows .mixedOrders = true) (hd : dag ops = true) (hn : rgOnce ops a.tmps.size = true) (hdep : depsOk ops = true) (hg : guardsOk ops = true) (hsel : noSel ops = true) (h0 : C s0 (fun _ => false) w.drew)
    (hstep : ∀ i o, ops[i]? = some o → ∀ s L w, C s L w → L i = false → (∀ j ∈ afters ops i, L j = true) → (∀ i, L i = true → ∀ j ∈ afters ops i, L j = true) → if wantV (vs s) o then stepW P o (view ops (vs s) a i) (fun u w' => ∃ s', (∀ j, L j = true → vs s j = vs s' j) ∧ u = vs s' i ∧ C s' (upd L i) w') w else undef = vs s i ∧ C s (upd L i) w)
    (hend : ∀ s L w, C s L w → (∀ i, i < ops.size → L i = true) → Q .normal (rgF ops (vs s) a fun _ => true) w) : (Code.region id ops true).wp P Q a w := by
  refine wp_region_inv_dc (I := fun L a' w' => ∃ s, a' = rgF ops (vs s) a L ∧ C s L w') hm hd ⟨s0, rgF_none.symm, h0⟩ ?_ ?_
  · rintro i hi L a' w' ⟨s, ea, hC⟩ hL ha hdc
    subst ea
    exact step_holes vs C hn hdep hg hsel hstep hi hC hL ha hdc
  · rintro L a' w' ⟨s, ea, hC⟩ hall
    rw [ea, rgF_all (L' := fun _ => true) hall]
    exact hend s L w' hC hall
theorem region_holes_lit {id : Nat} (vs : σ → Nat → Value) (C : σ → (Nat → Bool) → World → Prop) (s0 : σ) (ht : textOk ops = true) (hn : rgOnce ops a.tmps.size = true) (hdep : depsOk ops = true) (hg : guardsOk ops = true) (hsel : noSel ops = true) (h0 : C s0 (fun _ => false) w)
    (hstep : ∀ i o, ops[i]? = some o → ∀ s L w, C s L w → L i = false → (∀ j ∈ afters ops i, L j = true) → (∀ i, L i = true → ∀ j ∈ afters ops i, L j = true) → if wantV (vs s) o then stepW P o (view ops (vs s) a i) (fun u w' => ∃ s', (∀ j, L j = true → vs s j = vs s' j) ∧ u = vs s' i ∧ C s' (upd L i) w') w else undef = vs s i ∧ C s (upd L i) w)
    (hend : ∀ s L w, C s L w → (∀ i, i < ops.size → L i = true) → Q .normal (rgF ops (vs s) a fun _ => true) w) : (Code.region id ops false).wp P Q a w := by
  unfold textOk at ht
  rw [List.all_eq_true] at ht
  have haft : ∀ k, ∀ j ∈ afters ops k, j < k := fun k j hj => by
    by_cases c : k < ops.size
    · have q := ht k (List.mem_range.2 c)
      rw [List.all_eq_true] at q
      simpa using q j hj
    · have e : ops[k]? = none := Array.getElem?_eq_none (by omega)
      unfold afters at hj
      rw [e] at hj
      simp at hj
  refine wp_region ?_
  rw [List.range_eq_range']
  have key : ∀ m k s w, k + m = ops.size → C s (fun j => decide (j < k)) w → wpOps P ops Q (List.range' k m) (rgF ops (vs s) a fun j => decide (j < k)) w := by
    intro m
    induction m with
    | zero =>
      intro k s w hk hC
      show Q .normal _ w
      rw [rgF_all (L' := fun _ => true) (fun i hi => by simp; omega)]
      exact hend s _ w hC fun i hi => by simp; omega
    | succ m ih =>
      intro k s w hk hC
      rw [List.range'_succ, wpOps_cons]
      refine wpOp_mono (fun a' w' hq => ?_) (step_holes vs C hn hdep hg hsel hstep (by omega) hC (by simp) (fun j hj => by simpa using haft k j hj) (fun i hi j hj => by have := haft i j hj; simp at hi ⊢; omega))
      obtain ⟨s', rfl, hq⟩ := hq
      rw [upd_lt] at hq ⊢
      exact ih (k + 1) s' w' (by omega) hq
  have := key ops.size 0 s0 w (by omega) (by simpa using h0)
  have e : rgF ops (vs s0) a (fun j => decide (j < 0)) = a := by
    rw [show (fun j => decide (j < 0)) = fun _ : Nat => false from by funext j; simp]
    exact rgF_none
  rw [e] at this
  exact this
end
end
section
/- A region as a whole: what stores, allocations, boxes, calls answer. -/
open Go.RowKit
section
variable {P : Program} {o : Oper} {w w' : World} {ρ : Operand → Value} {K : Value → World → Prop} {x y : Operand} {ty : TypeId} {p : Addr} {v : Value} {cs : Array Value}
theorem stepW_val (h : (execOp ρ o).run P w = .ok (.value v) w') (hK : K v w') : stepW P o ρ K w := by
  unfold stepW
  rw [h]
  exact hK
theorem stepW_skip (h : (execOp ρ o).run P w = .ok .skip w') (hK : K undef w') : stepW P o ρ K w := by
  unfold stepW
  rw [h]
  exact hK
theorem stepW_call {f : FuncId} {args : Array Value} (h : (execOp ρ o).run P w = .ok (.enter f args) w) (hc : Calls P f args w fun e w'' => ∃ u, e = .returned u ∧ K u w'') : stepW P o ρ K w := by
  unfold stepW
  rw [h]
  exact hc
theorem stepW_load (ho : o.op = .load ty x) (hx : ρ x = .pointer (some p)) (hl : (Instr.loadAt ty (.pointer (some p))).run P w = .ok v w) (hK : K v w) : stepW P o ρ K w := by
  refine stepW_val (w' := w) (v := v) ?_ hK
  unfold execOp
  simp only [ho, hx, Sem.run_bind, Sem.run_pure, hl, Result.andThen]
theorem stepW_store (ho : o.op = .store ty x y) (hx : ρ x = .pointer (some p)) (hy : ρ y = v) (hs : (Instr.storeAt ty (.pointer (some p)) v).run P w = .ok () w') (hK : K undef w') : stepW P o ρ K w := by
  unfold stepW execOp
  simp only [ho, hx, hy, Sem.run_bind, Sem.run_pure, hs, Result.andThen]
  exact hK
theorem stepW_box (ho : o.op = .box ty x) (hx : ρ x = .agg cs) (hK : K (.pointer (some ⟨w.heap.size, 0, none⟩)) (w.alloc (.cells cs ty))) : stepW P o ρ K w := by
  unfold stepW execOp
  simp only [ho, hx, Instr.box, Sem.run_bind, newVar, Sem.run_pure]
  exact hK
theorem stepW_alloc {z : Array Value} (ho : o.op = .alloc ty) (hz : (zeroValue ty).run P w = .ok (.agg z) w) (hK : K (.pointer (some ⟨w.heap.size, 0, none⟩)) (w.alloc (.cells z ty))) : stepW P o ρ K w := by
  unfold stepW execOp
  simp only [ho, Instr.alloc, Sem.run_bind, hz, Result.andThen_ok, newVar, Sem.run_pure]
  exact hK
end
end
section
/- A region as a whole, with values that come up: pure ones, unwanted ones, loads all at once. -/
open Go.RowKit
section
variable {σ : Type}
/-- Each of them holds what is loaded, once what it waits for has come up. -/
def cellsW (ops : Array Oper) (L : Nat → Bool) (w : World) (s : σ) (vs : Nat → Value) : List (Nat × (σ → Addr)) → Prop | [] => True | (i, p) :: l => ((∀ j ∈ afters ops i, L j = true) → w.cell? (p s) = some (vs i)) ∧ cellsW ops L w s vs l
variable {P : Program} {ops : Array Oper} {a : Act} {L : Nat → Bool} {w : World}
theorem cellsW_mem {s : σ} {vs : Nat → Value} : ∀ {l : List (Nat × (σ → Addr))} (h : cellsW ops L w s vs l) {e : Nat × (σ → Addr)}, e ∈ l → (∀ j ∈ afters ops e.1, L j = true) → w.cell? (e.2 s) = some (vs e.1)
  | (j, p) :: l, h, e, he => by
    rcases List.mem_cons.1 he with rfl | he
    · exact h.1
    · exact cellsW_mem h.2 he
theorem steps_of3 (vs : σ → Nat → Value) (C : σ → (Nat → Bool) → World → Prop) (ps qs : List Nat) (ls : List (Nat × (σ → Addr))) (rs : List Nat)
    (hcov : (List.range ops.size).all (fun i => ps.contains i || qs.contains i || (ls.map Prod.fst).contains i || rs.contains i) = true)
    (hpw : ∀ s, ps.map (wantI ops (vs s)) = ps.map fun _ => true) (hp : ∀ s w, ps.map (outV P ops (vs s) a w) = ps.map (ansV (vs s) w))
    (hqw : ∀ s, qs.map (wantI ops (vs s)) = qs.map fun _ => false) (hq : ∀ s, qs.map (vs s) = qs.map fun _ => undef)
    (hlw : ∀ s, ls.map (fun e => wantI ops (vs s) e.1) = ls.map fun _ => true) (hl : ∀ s, ls.map (fun e => ldAt P ops (vs s) a e.1) = ls.map fun e => (true, .pointer (some (e.2 s))))
    (hc : ∀ s L w, C s L w → cellsW ops L w s (vs s) ls)
    (hC : ∀ i, i ∈ ps ∨ i ∈ qs ∨ i ∈ ls.map Prod.fst → ∀ s L w, C s L w → C s (upd L i) w)
    (hr : ∀ i, i ∈ rs → ∀ s L w, C s L w → L i = false → (∀ j ∈ afters ops i, L j = true) → (∀ i, L i = true → ∀ j ∈ afters ops i, L j = true) → wantI ops (vs s) i = true ∧ ∀ o, ops[i]? = some o → stepW P o (view ops (vs s) a i) (fun u w' => ∃ s', (∀ j, L j = true → vs s j = vs s' j) ∧ u = vs s' i ∧ C s' (upd L i) w') w) :
    ∀ i o, ops[i]? = some o → ∀ s L w, C s L w → L i = false → (∀ j ∈ afters ops i, L j = true) → (∀ i, L i = true → ∀ j ∈ afters ops i, L j = true) → if wantV (vs s) o then stepW P o (view ops (vs s) a i) (fun u w' => ∃ s', (∀ j, L j = true → vs s j = vs s' j) ∧ u = vs s' i ∧ C s' (upd L i) w') w else undef = vs s i ∧ C s (upd L i) w := by
  intro i o ho s L w hcc hL ha hdc
  rw [List.all_eq_true] at hcov
  have q := hcov i (List.mem_range.2 (Array.getElem?_eq_some_iff.1 ho).1)
  have ew : wantI ops (vs s) i = wantV (vs s) o := by unfold wantI; rw [ho]
  rw [Bool.or_eq_true, Bool.or_eq_true, Bool.or_eq_true, List.contains_iff_mem, List.contains_iff_mem, List.contains_iff_mem, List.contains_iff_mem] at q
  rcases q with ((q | q) | q) | q
  · have e1 : wantI ops (vs s) i = true := rg_map_mem (hpw s) q
    have e2 := rg_map_mem (hp s w) q
    rw [ew] at e1
    rw [if_pos e1]
    unfold outV ansV at e2
    rw [ho] at e2
    exact stepW_val e2 ⟨s, fun _ _ => rfl, rfl, hC i (.inl q) s L w hcc⟩
  · have e1 : wantI ops (vs s) i = false := rg_map_mem (hqw s) q
    have e2 : vs s i = undef := rg_map_mem (hq s) q
    rw [ew] at e1
    rw [e1]
    exact ⟨e2.symm, hC i (.inr (.inl q)) s L w hcc⟩
  · obtain ⟨e, he, rfl⟩ := List.mem_map.1 q
    have e1 : wantI ops (vs s) e.1 = true := rg_map_mem (hlw s) he
    rw [ew] at e1
    rw [if_pos e1]
    have q2 := rg_map_mem (hl s) he
    unfold ldAt at q2
    rw [ho] at q2
    have q2 : (match o.op with | .load ty x => (plainT (P.underlying ty), view ops (vs s) a e.1 x) | _ => (false, undef)) = (true, .pointer (some (e.2 s))) := q2
    split at q2
    · next ty x hop =>
      injection q2 with q3 q4
      exact stepW_load hop q4 (run_loadAt_cell q3 (cellsW_mem (hc s L w hcc) he ha)) ⟨s, fun _ _ => rfl, rfl, hC e.1 (.inr (.inr q)) s L w hcc⟩
    · injection q2 with q3 q4
      cases q3
  · obtain ⟨e1, h⟩ := hr i q s L w hcc hL ha hdc
    rw [ew] at e1
    rw [if_pos e1]
    exact h o ho
end
end
end Go.Proofs.YtelohoomlgjjmaaDoor
