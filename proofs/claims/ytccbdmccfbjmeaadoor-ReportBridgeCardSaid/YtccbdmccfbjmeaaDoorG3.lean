import Derived.Test.YtccbdmccfbjmeaaDoorG2
import Derived.Test.YtccbdmccfbjmeaaDoorG1
import Derived.Below
set_option linter.unusedSimpArgs false
set_option linter.unusedVariables false
namespace Go.Proofs.YtccbdmccfbjmeaaDoor
section
open Go.RowKit
structure W2 (w1 : World) (t t' : TypeId) (n n' : Nat) (x y : Array Value) (a b p q : Bool) (v7 v8 : Value) (w : World) : Prop where
 from1 : Below w1.heap.size w1 w
 p7 : a = true → PtrAt w1.heap.size t n w v7 p x
 p8 : b = true → PtrAt w1.heap.size t' n' w v8 q y
 d78 : a = true → b = true → v7 ≠ v8
 o7 : p = true → a = true
 o8 : q = true → b = true
section
variable {w1 w w' : World} {t t' : TypeId} {n n' : Nat} {x y nil : Array Value} {a b p q : Bool} {v7 v8 : Value} {g : Nat} {cs : Array Value}
theorem W2.start (w : World) : W2 w t t' n n' x y false false false false v7 v8 w.drew :=
 ⟨(Below.refl _ _).drew, (fun h => Bool.noConfusion h), (fun h => Bool.noConfusion h), (fun h => Bool.noConfusion h), (fun h => Bool.noConfusion h), (fun h => Bool.noConfusion h)⟩
theorem W2.next (h : W2 w1 t t' n n' x y a b p q v7 v8 w) (hb : Below w.heap.size w w') : W2 w1 t t' n n' x y a b p q v7 v8 w' :=
 ⟨h.from1.trans (hb.mono h.from1.size), fun hu => (h.p7 hu).below hb, fun hu => (h.p8 hu).below hb, h.d78, h.o7, h.o8⟩
theorem W2.alloc7 (h : W2 w1 t t' n n' x y a b p q v7 v8 w) (hn : nil.size = n) (hl : a = false) : W2 w1 t t' n n' x y true b p q (.pointer (some ⟨w.heap.size, 0, none⟩)) v8 (w.alloc (.cells nil t)) :=
 ⟨h.from1.alloc h.from1.size _, fun _ => ⟨w.heap.size, nil, rfl, h.from1.size, hn, Blk.new w nil t, fun hd => by rw [h.o7 hd] at hl; cases hl⟩, fun hu => (h.p8 hu).below ((Below.refl _ _).alloc (Nat.le_refl _) _), fun _ hu e => (h.p8 hu).old e.symm, fun hd => rfl, h.o8⟩
theorem W2.store7 (h : W2 w1 t t' n n' x y a b p q (.pointer (some ⟨g, 0, none⟩)) v8 w) (ha : a = true) (hx : x.size = n) (hk : Blk w g cs t) (hc : w1.heap.size ≤ g) : W2 w1 t t' n n' x y a b true q (.pointer (some ⟨g, 0, none⟩)) v8 (w.setRow g x) :=
 ⟨below_setRow h.from1 hc _, fun _ => ⟨g, x, rfl, hc, hx, hk.row _, fun _ => rfl⟩, fun hu => (h.p8 hu).rowOther (fun e => h.d78 ha hu e.symm), h.d78, fun _ => ha, h.o8⟩
end
theorem kb_add {w0 w : World} {l : List (Nat × Array Value × TypeId)} {b : Nat} {cs : Array Value} {t : TypeId} (K : Kb w0 l w) (hk : Blk w b cs t) (hf : ∀ x ∈ l, x.1 ≠ b) (h0 : w0.heap.size ≤ b) : Kb w0 (l ++ [(b, cs, t)]) w := by
 refine ⟨fun x hx => ?_, K.below, fun x hx => ?_, ?_⟩
 ·
  rcases List.mem_append.1 hx with hx | hx
  ·
   exact K.all x hx
  ·
   rw [List.mem_singleton.1 hx]; exact hk
 ·
  rcases List.mem_append.1 hx with hx | hx
  ·
   exact K.new x hx
  ·
   rw [List.mem_singleton.1 hx]; exact h0
 ·
  rw [List.map_append, List.nodup_append]
  refine ⟨K.nd, by simp, fun x hx y hy => ?_⟩
  obtain ⟨z, hz, rfl⟩ := List.mem_map.1 hx
  have := hf z hz
  simp at hy
  omega
theorem cast_blk {w0 w : World} {l l' : List (Nat × Array Value × TypeId)} (K : Kb w0 l w) (e : l = l') : Kb w0 l' w := e ▸ K
theorem i_not {P : Program} {ops : Array Oper} {Q : Exit → Act → World → Prop} {i : Nat} {o : Oper} {a : Act} {w : World} {K : Act → World → Prop} (ho : ops[i]? = some o) (hw : Region.wanted o (yielded ops a.tmps) = false) (h : K (a.put o.dst undef) w) : wpOp P ops Q i K a w := by
 unfold wpOp
 simp [ho, hw]
 exact h
end
section
open Go.RowKit
def reach (ops : Array Oper) : Nat → List Nat → List Nat
 | 0, S => S
 | k + 1, S => reach ops k (S ++ S.flatMap (afters ops))
def covers (ops : Array Oper) (n : Nat) : Bool := ops.size == n + 1 && (List.range n).all fun i => (reach ops n (afters ops n)).contains i
theorem reach_true {ops : Array Oper} {L : Nat → Bool} (hd : ∀ i, L i = true → ∀ j ∈ afters ops i, L j = true) : ∀ (k : Nat) (S : List Nat), (∀ j ∈ S, L j = true) → ∀ j ∈ reach ops k S, L j = true
 | 0, S, h => h
 | k + 1, S, h => by
  unfold reach
  refine reach_true hd k _ (fun j hj => ?_)
  rcases List.mem_append.1 hj with hj | hj
  ·
   exact h j hj
  ·
   obtain ⟨i, hi, hji⟩ := List.mem_flatMap.1 hj
   exact hd i (h i hi) j hji
section
variable {P : Program} {ops : Array Oper} {Q : Exit → Act → World → Prop}
theorem i_skip {i : Nat} {o : Oper} {a : Act} {w : World} {K : Act → World → Prop} (ho : ops[i]? = some o) (w' : World) (hw : Region.wanted o (yielded ops a.tmps) = true) (hv : (execOp a.eval o).run P w = .ok .skip w') (h : K (a.put o.dst undef) w') : wpOp P ops Q i K a w := by
 unfold wpOp
 simp only [ho, hw, if_true, Oper.wp, hv, Oper.upon]
 exact .inl h
end
end
section
open Go.RowKit
theorem wp_region_inv_dc {P : Program} {ops : Array Oper} {Q : Exit → Act → World → Prop} {id : Nat} {a : Act} {w : World} (I : (Nat → Bool) → Act → World → Prop) (hm : P.follows .mixedOrders = true) (hd : dag ops = true) (h0 : I (fun _ => false) a w.drew)
 (hstep : ∀ i, i < ops.size → ∀ L a w, I L a w → L i = false → (∀ j ∈ afters ops i, L j = true) → (∀ i, L i = true → ∀ j ∈ afters ops i, L j = true) → wpOp P ops Q i (fun a' w' => I (upd L i) a' w') a w)
 (hend : ∀ L a w, I L a w → (∀ i, i < ops.size → L i = true) → Q .normal a w) : (Code.region id ops true).wp P Q a w := by
 refine wp_region_inv (I := fun L a w => (∀ i, L i = true → ∀ j ∈ afters ops i, L j = true) ∧ I L a w) hm hd ⟨fun i h => Bool.noConfusion h, h0⟩ ?_ (fun L a w h => hend L a w h.2)
 intro i hi L a w ⟨hdc, hI⟩ hL haft
 refine wpOp_mono (fun a' w' hq => ⟨fun k hk j hj => ?_, hq⟩) (hstep i hi L a w hI hL haft hdc)
 have base : L j = true := by
  by_cases c : k = i
  ·
   exact haft j (c ▸ hj)
  ·
   unfold upd at hk
   rw [if_neg c] at hk
   exact hdc k hk j hj
 unfold upd
 split
 ·
  rfl
 ·
  exact base
end
section
open Go.RowKit
theorem map_congr_arr {α β : Type} {f g : α → β} {l : Array α} (h : ∀ x ∈ l, f x = g x) : l.map f = l.map g := Array.map_congr_left h
theorem exec_congr {ρ ρ' : Operand → Value} {o : Oper} (hs : ∀ cs b, o.op ≠ .select cs b) (h : ∀ x ∈ o.op.operands, ρ x = ρ' x) : execOp ρ o = execOp ρ' o := by
 obtain ⟨dst, op, type, pos, after, guard⟩ := o
 replace hs : ∀ cs b, op ≠ .select cs b := hs
 replace h : ∀ x ∈ op.operands, ρ x = ρ' x := h
 cases op
 case build t ps =>
  have e : (ps.map fun (i, x) => (i, ρ x)) = ps.map fun (i, x) => (i, ρ' x) := by
   refine map_congr_arr fun y hy => ?_
   obtain ⟨i, x⟩ := y
   have := h x (by simp [Op.operands]; exact ⟨i, hy⟩)
   simp [this]
  simp only [execOp, e]
 case buildSlice t n ps =>
  have e : (ps.map fun (i, x) => (i, ρ x)) = ps.map fun (i, x) => (i, ρ' x) := by
   refine map_congr_arr fun y hy => ?_
   obtain ⟨i, x⟩ := y
   have := h x (by simp [Op.operands]; exact ⟨i, hy⟩)
   simp [this]
  simp only [execOp, e]
 case makeFunc fn a b =>
  have e1 : a.map ρ = a.map ρ' := map_congr_arr fun x hx => h x (by simp [Op.operands, hx])
  have e2 : b.map ρ = b.map ρ' := map_congr_arr fun x hx => h x (by simp [Op.operands, hx])
  simp only [execOp, e1, e2]
 case makeMap t r =>
  cases r with
  | none => rfl
  | some r => have := h r (by simp [Op.operands]); simp [execOp, this]
 case slice t x lo hi mx =>
  have e0 := h x (by simp [Op.operands])
  have e1 : lo.map ρ = lo.map ρ' := by cases lo with | none => rfl | some r => simp [h r (by simp [Op.operands])]
  have e2 : hi.map ρ = hi.map ρ' := by cases hi with | none => rfl | some r => simp [h r (by simp [Op.operands])]
  have e3 : mx.map ρ = mx.map ρ' := by cases mx with | none => rfl | some r => simp [h r (by simp [Op.operands])]
  simp only [execOp, e0, e1, e2, e3]
 case call c =>
  have e : ∀ t, resolve ρ c t = resolve ρ' c t := fun t => by
   have e1 : c.args.map ρ = c.args.map ρ' := map_congr_arr fun x hx => h x (by simp [Op.operands, Call.operands, hx])
   unfold resolve
   cases hc : c.callee with
   | value f => simp [e1, h f (by simp [Op.operands, Call.operands, hc])]
   | invoke r m => simp [e1, h r (by simp [Op.operands, Call.operands, hc])]
   | builtin b => simp [e1]
  simp only [execOp, e]
 case go c =>
  have e : ∀ t, resolve ρ c t = resolve ρ' c t := fun t => by
   have e1 : c.args.map ρ = c.args.map ρ' := map_congr_arr fun x hx => h x (by simp [Op.operands, Call.operands, hx])
   unfold resolve
   cases hc : c.callee with
   | value f => simp [e1, h f (by simp [Op.operands, Call.operands, hc])]
   | invoke r m => simp [e1, h r (by simp [Op.operands, Call.operands, hc])]
   | builtin b => simp [e1]
  simp only [execOp, e]
 case defer c =>
  have e : ∀ t, resolve ρ c t = resolve ρ' c t := fun t => by
   have e1 : c.args.map ρ = c.args.map ρ' := map_congr_arr fun x hx => h x (by simp [Op.operands, Call.operands, hx])
   unfold resolve
   cases hc : c.callee with
   | value f => simp [e1, h f (by simp [Op.operands, Call.operands, hc])]
   | invoke r m => simp [e1, h r (by simp [Op.operands, Call.operands, hc])]
   | builtin b => simp [e1]
  simp only [execOp, e]
 case select cs b => exact absurd rfl (hs cs b)
 all_goals
  simp [Op.operands] at h
  simp [execOp, h]
end
section
open Go.RowKit
def wrOf (ops : Array Oper) (s : Nat) : Option Nat := (List.range ops.size).find? fun i => (ops[i]?.bind (·.dst)) == some s
def rgT (ops : Array Oper) (vs : Nat → Value) (t : Array Value) (L : Nat → Bool) : Array Value := t.mapIdx fun s old => match wrOf ops s with | some i => bif L i then vs i else old | none => old
def rgF (ops : Array Oper) (vs : Nat → Value) (a : Act) (L : Nat → Bool) : Act := { a with tmps := rgT ops vs a.tmps L }
def rgOnce (ops : Array Oper) (n : Nat) : Bool := (List.range ops.size).all fun i => match ops[i]?.bind (·.dst) with | some s => (wrOf ops s == some i) && decide (s < n) | none => true
section
variable {ops : Array Oper} {vs : Nat → Value} {a : Act} {L : Nat → Bool} {i s : Nat} {o : Oper}
theorem wr_some (h : wrOf ops s = some i) : ∃ o, ops[i]? = some o ∧ o.dst = some s := by
 have q := List.find?_some h
 have q : ((ops[i]?.bind (·.dst)) == some s) = true := q
 rw [beq_iff_eq] at q
 cases c : ops[i]? with
 | none => rw [c] at q; cases q
 | some o => rw [c] at q; exact ⟨o, rfl, q⟩
theorem rgOnce_at {n : Nat} (h : rgOnce ops n = true) (ho : ops[i]? = some o) (hd : o.dst = some s) : wrOf ops s = some i ∧ s < n := by
 unfold rgOnce at h
 rw [List.all_eq_true] at h
 have q := h i (List.mem_range.2 (Array.getElem?_eq_some_iff.1 ho).1)
 rw [ho] at q
 simp only [Option.bind_some, hd] at q
 rw [Bool.and_eq_true, beq_iff_eq, decide_eq_true_iff] at q
 exact q
theorem rgT_at (t : Array Value) (k : Nat) : (rgT ops vs t L)[k]? = (t[k]?).map fun old => match wrOf ops k with | some i => bif L i then vs i else old | none => old := by
 unfold rgT
 rw [Array.getElem?_mapIdx]
theorem rgF_none : rgF ops vs a (fun _ => false) = a := by
 unfold rgF
 have e : rgT ops vs a.tmps (fun _ => false) = a.tmps := by
  refine Array.ext_getElem? fun k => ?_
  rw [rgT_at]
  cases a.tmps[k]? with
  | none => rfl
  | some v =>
   show some _ = some v
   congr 1
   split <;> rfl
 rw [e]
theorem rgF_put (h : rgOnce ops a.tmps.size = true) (ho : ops[i]? = some o) : (rgF ops vs a L).put o.dst (vs i) = rgF ops vs a (upd L i) := by
 cases hd : o.dst with
 | none =>
  show rgF ops vs a L = _
  unfold rgF
  have e : rgT ops vs a.tmps L = rgT ops vs a.tmps (upd L i) := by
   refine Array.ext_getElem? fun k => ?_
   rw [rgT_at, rgT_at]
   congr 1
   funext old
   cases c : wrOf ops k with
   | none => rfl
   | some j =>
    obtain ⟨o2, h1, h2⟩ := wr_some c
    have hj : j ≠ i := fun e => by subst e; rw [ho] at h1; injection h1 with h1; subst h1; rw [hd] at h2; cases h2
    show (bif L j then _ else _) = bif upd L i j then _ else _
    unfold upd
    rw [if_neg hj]
  rw [e]
 | some s =>
  obtain ⟨hw, hs⟩ := rgOnce_at h ho hd
  show ({ rgF ops vs a L with tmps := (rgT ops vs a.tmps L).setIfInBounds s (vs i) } : Act) = _
  unfold rgF
  have e : (rgT ops vs a.tmps L).setIfInBounds s (vs i) = rgT ops vs a.tmps (upd L i) := by
   refine Array.ext_getElem? fun k => ?_
   rw [Array.getElem?_setIfInBounds, rgT_at, rgT_at]
   by_cases c : s = k
   ·
    subst c
    have hsz : s < (rgT ops vs a.tmps L).size := by unfold rgT; rw [Array.size_mapIdx]; exact hs
    rw [if_pos rfl, if_pos hsz, Array.getElem?_eq_getElem hs, hw]
    show some (vs i) = some (bif upd L i i then vs i else _)
    unfold upd
    rw [if_pos rfl]
    rfl
   ·
    rw [if_neg c]
    congr 1
    funext old
    cases c2 : wrOf ops k with
    | none => rfl
    | some j =>
     obtain ⟨o2, h1, h2⟩ := wr_some c2
     have hj : j ≠ i := fun e => by subst e; rw [ho] at h1; injection h1 with h1; subst h1; rw [hd] at h2; injection h2 with h2; exact c h2
     show (bif L j then _ else _) = bif upd L i j then _ else _
     unfold upd
     rw [if_neg hj]
  rw [e]
def view (ops : Array Oper) (vs : Nat → Value) (a : Act) (i : Nat) : Operand → Value
 | .tmp u => match wrOf ops u with | some j => bif (afters ops i).contains j then vs j else a.tmps.getD u undef | none => a.tmps.getD u undef
 | x => a.eval x
def depOk (ops : Array Oper) (i : Nat) : Operand → Bool
 | .tmp u => match wrOf ops u with | some j => (afters ops i).contains j || (afters ops j).contains i || decide (j = i) | none => true
 | _ => true
def depsOk (ops : Array Oper) : Bool := (List.range ops.size).all fun i => match ops[i]? with | some o => o.op.operands.toList.all (depOk ops i) | none => true
theorem view_eq (hn : rgOnce ops a.tmps.size = true) (hd : depsOk ops = true) (ho : ops[i]? = some o) (hL : L i = false) (ha : ∀ j ∈ afters ops i, L j = true) (hc : ∀ k, L k = true → ∀ j ∈ afters ops k, L j = true) {x : Operand} (hx : x ∈ o.op.operands) : (rgF ops vs a L).eval x = view ops vs a i x := by
 unfold depsOk at hd
 rw [List.all_eq_true] at hd
 have q := hd i (List.mem_range.2 (Array.getElem?_eq_some_iff.1 ho).1)
 rw [ho] at q
 have q : o.op.operands.toList.all (depOk ops i) = true := q
 rw [List.all_eq_true] at q
 have q := q x (by simpa using hx)
 cases x with
 | tmp u =>
  show (rgT ops vs a.tmps L).getD u undef = (match wrOf ops u with | some j => bif (afters ops i).contains j then vs j else a.tmps.getD u undef | none => a.tmps.getD u undef)
  have q : (match wrOf ops u with | some j => (afters ops i).contains j || (afters ops j).contains i || decide (j = i) | none => true) = true := q
  rw [Array.getD_eq_getD_getElem?, rgT_at]
  cases c : wrOf ops u with
  | none => simp [Array.getD_eq_getD_getElem?]
  | some j =>
   rw [c] at q
   obtain ⟨o2, h1, h2⟩ := wr_some c
   have hu : u < a.tmps.size := (rgOnce_at hn h1 h2).2
   rw [Array.getElem?_eq_getElem hu]
   show (bif L j then vs j else a.tmps[u]) = bif (afters ops i).contains j then vs j else a.tmps.getD u undef
   have hg : a.tmps.getD u undef = a.tmps[u] := by simp [Array.getD_eq_getD_getElem?, hu]
   rw [hg]
   cases c1 : (afters ops i).contains j with
   | true => rw [ha j (by simpa using c1)]
   | false =>
    have hj : L j = false := by
     cases c2 : L j with
     | false => rfl
     | true =>
      have q : ((afters ops i).contains j || (afters ops j).contains i || decide (j = i)) = true := q
      rw [c1] at q
      simp at q
      rcases q with q | q
      ·
       have := hc j c2 i q; rw [hL] at this; cases this
      ·
       subst q; rw [hL] at c2; cases c2
    rw [hj]
 | _ => rfl
end
end
section
open Go.RowKit
def wantV (vs : Nat → Value) (o : Oper) : Bool := match o.guard with | none => true | some (j, want) => match vs j with | .bool b => b == want | _ => false
def guardOk (ops : Array Oper) (i : Nat) : Bool := match ops[i]? with | some o => (match o.guard with | none => true | some (j, _) => (afters ops i).contains j && (ops[j]?.bind (·.dst)).isSome) | none => true
def guardsOk (ops : Array Oper) : Bool := (List.range ops.size).all (guardOk ops)
def isSel : Op → Bool | .select _ _ => true | _ => false
def noSel (ops : Array Oper) : Bool := ops.all fun o => !isSel o.op
section
variable {P : Program} {ops : Array Oper} {vs : Nat → Value} {a : Act} {L : Nat → Bool} {i : Nat} {o : Oper} {w : World} {Q : Exit → Act → World → Prop}
theorem wanted_rgF (hn : rgOnce ops a.tmps.size = true) (hg : guardsOk ops = true) (ho : ops[i]? = some o) (ha : ∀ j ∈ afters ops i, L j = true) : Region.wanted o (yielded ops (rgF ops vs a L).tmps) = wantV vs o := by
 unfold guardsOk at hg
 rw [List.all_eq_true] at hg
 have q := hg i (List.mem_range.2 (Array.getElem?_eq_some_iff.1 ho).1)
 unfold guardOk at q
 rw [ho] at q
 unfold Region.wanted wantV
 cases c : o.guard with
 | none => rfl
 | some g =>
  obtain ⟨j, want⟩ := g
  have q : (match o.guard with | none => true | some (j, _) => (afters ops i).contains j && (ops[j]?.bind (·.dst)).isSome) = true := q
  rw [c] at q
  have q : ((afters ops i).contains j && (ops[j]?.bind (·.dst)).isSome) = true := q
  rw [Bool.and_eq_true] at q
  obtain ⟨q1, q2⟩ := q
  have hj := ha j (by simpa using q1)
  obtain ⟨d, hd⟩ := Option.isSome_iff_exists.1 q2
  cases c2 : ops[j]? with
  | none => rw [c2] at hd; cases hd
  | some o2 =>
   rw [c2] at hd
   obtain ⟨h1, h2⟩ := rgOnce_at hn c2 hd
   have e : (rgT ops vs a.tmps L)[d]? = some (vs j) := by
    rw [rgT_at, Array.getElem?_eq_getElem h2, h1]
    show some (bif L j then _ else _) = _
    rw [hj]
    rfl
   show (yielded ops (rgT ops vs a.tmps L) j == some want) = match vs j with | .bool b => b == want | _ => false
   unfold yielded
   rw [c2, hd]
   show ((match (rgT ops vs a.tmps L)[d]? with | some (.bool b) => some b | _ => none) == some want) = _
   rw [e]
   cases vs j <;> first | rfl | (rename_i b; cases b <;> cases want <;> rfl)
theorem rgF_all {L' : Nat → Bool} (h : ∀ i, i < ops.size → L i = L' i) : rgF ops vs a L = rgF ops vs a L' := by
 unfold rgF
 have e : rgT ops vs a.tmps L = rgT ops vs a.tmps L' := by
  refine Array.ext_getElem? fun k => ?_
  rw [rgT_at, rgT_at]
  congr 1
  funext old
  cases c : wrOf ops k with
  | none => rfl
  | some j =>
   obtain ⟨o2, h1, h2⟩ := wr_some c
   show (bif L j then _ else _) = bif L' j then _ else _
   rw [h j (Array.getElem?_eq_some_iff.1 h1).1]
 rw [e]
def textOk (ops : Array Oper) : Bool := (List.range ops.size).all fun i => (afters ops i).all fun j => decide (j < i)
theorem upd_lt (k : Nat) : upd (fun j => decide (j < k)) k = fun j => decide (j < k + 1) := by
 funext j
 unfold upd
 split
 ·
  subst_vars; simp
 ·
  rw [Bool.eq_iff_iff]; simp; omega
end
end
section
open Go.RowKit
def outV (P : Program) (ops : Array Oper) (vs : Nat → Value) (a : Act) (w : World) (i : Nat) : Result Next := match ops[i]? with | some o => (execOp (view ops vs a i) o).run P w | none => .ok .skip w
def ansV (vs : Nat → Value) (w : World) (i : Nat) : Result Next := .ok (.value (vs i)) w
def wantI (ops : Array Oper) (vs : Nat → Value) (i : Nat) : Bool := match ops[i]? with | some o => wantV vs o | none => true
section
variable {P : Program} {ops : Array Oper} {vs : Nat → Value} {a : Act} {L : Nat → Bool} {i : Nat} {o : Oper} {w : World} {Q : Exit → Act → World → Prop}
end
end
section
open Go.RowKit
def plainT : Option TypeDesc → Bool | some (.struct _) => false | some (.array _ _) => false | some _ => true | none => false
def ldAt (P : Program) (ops : Array Oper) (vs : Nat → Value) (a : Act) (i : Nat) : Bool × Value := match ops[i]? with | some o => (match o.op with | .load ty x => (plainT (P.underlying ty), view ops vs a i x) | _ => (false, undef)) | none => (false, undef)
section
variable {P : Program} {ops : Array Oper} {vs : Nat → Value} {a : Act} {L : Nat → Bool} {i : Nat} {o : Oper} {w : World} {Q : Exit → Act → World → Prop}
theorem run_loadAt_cell {ty : TypeId} {p : Addr} {v : Value} (hu : plainT (P.underlying ty) = true) (hc : w.cell? p = some v) : (Instr.loadAt ty (.pointer (some p))).run P w = .ok v w := by
 cases c : P.underlying ty with
 | none => rw [c] at hu; cases hu
 | some d =>
  rw [c] at hu
  cases d <;> first | (cases hu; done) | (simp [Instr.loadAt, Instr.sureAddr, loadVar, isAgg, underlying, c, hc, Result.andThen])
theorem rg_map_mem {α β : Type} {f g : α → β} : ∀ {l : List α} (h : l.map f = l.map g) {i : α}, i ∈ l → f i = g i
 | x :: l, h, i, hi => by
  simp only [List.map_cons, List.cons.injEq] at h
  rcases List.mem_cons.1 hi with rfl | hi
  ·
   exact h.1
  ·
   exact rg_map_mem h.2 hi
end
end
section
open Go.RowKit
def stepW (P : Program) (o : Oper) (ρ : Operand → Value) (K : Value → World → Prop) (w : World) : Prop :=
 match (execOp ρ o).run P w with
 | .ok (.value u) w' => K u w'
 | .ok .skip w' => K undef w'
 | .ok (.enter f args) w' => Calls P f args w' fun e w'' => ∃ u, e = .returned u ∧ K u w''
 | .ok (.row row args) w' => Rows P row args w' fun u w'' => K u w''
 | _ => False
section
universe u
variable {P : Program} {ops : Array Oper} {a : Act} {L : Nat → Bool} {i : Nat} {o : Oper} {w : World} {Q : Exit → Act → World → Prop} {σ : Type u}
theorem rgF_agree {vs vs' : Nat → Value} (h : ∀ j, L j = true → vs j = vs' j) : rgF ops vs a L = rgF ops vs' a L := by
 unfold rgF
 have e : rgT ops vs a.tmps L = rgT ops vs' a.tmps L := by
  refine Array.ext_getElem? fun k => ?_
  rw [rgT_at, rgT_at]
  congr 1
  funext old
  cases c : wrOf ops k with
  | none => rfl
  | some j =>
   show (bif L j then _ else _) = bif L j then _ else _
   cases c2 : L j with
   | false => rfl
   | true => exact h j c2
 rw [e]
theorem step_holes (vs : σ → Nat → Value) (C : σ → (Nat → Bool) → World → Prop) (hn : rgOnce ops a.tmps.size = true) (hdep : depsOk ops = true) (hg : guardsOk ops = true) (hsel : noSel ops = true)
 (hstep : ∀ i o, ops[i]? = some o → ∀ s L w, C s L w → L i = false → (∀ j ∈ afters ops i, L j = true) → (∀ i, L i = true → ∀ j ∈ afters ops i, L j = true) → if wantV (vs s) o then stepW P o (view ops (vs s) a i) (fun u w' => ∃ s', (∀ j, L j = true → vs s j = vs s' j) ∧ u = vs s' i ∧ C s' (upd L i) w') w else undef = vs s i ∧ C s (upd L i) w)
 (hi : i < ops.size) {s : σ} {w' : World} (hC : C s L w') (hL : L i = false) (ha : ∀ j ∈ afters ops i, L j = true) (hdc : ∀ i, L i = true → ∀ j ∈ afters ops i, L j = true) : wpOp P ops Q i (fun a' w' => ∃ s, a' = rgF ops (vs s) a (upd L i) ∧ C s (upd L i) w') (rgF ops (vs s) a L) w' := by
 have ho : ops[i]? = some ops[i] := Array.getElem?_eq_getElem hi
 generalize ops[i] = o at ho
 have hS := hstep i o ho s L w' hC hL ha hdc
 have hW := wanted_rgF (L := L) (vs := vs s) hn hg ho ha
 cases c : wantV (vs s) o with
 | false =>
  rw [c] at hS hW
  obtain ⟨e, hK⟩ := hS
  refine i_not ho hW ⟨s, ?_, hK⟩
  rw [← rgF_put hn ho, ← e]
 | true =>
  rw [c] at hS hW
  have hS : stepW P o (view ops (vs s) a i) (fun u w' => ∃ s', (∀ j, L j = true → vs s j = vs s' j) ∧ u = vs s' i ∧ C s' (upd L i) w') w' := hS
  refine i_wp ho hW ?_
  have hns : ∀ cs b, o.op ≠ .select cs b := fun cs b e => by
   unfold noSel at hsel
   rw [Array.all_eq_true] at hsel
   have := hsel i hi
   rw [Array.getElem?_eq_getElem hi] at ho
   injection ho with ho
   rw [ho, e] at this
   cases this
  have ee : execOp (rgF ops (vs s) a L).eval o = execOp (view ops (vs s) a i) o := exec_congr hns fun x hx => view_eq hn hdep ho hL ha hdc hx
  have hput : ∀ {u : Value} {w3 : World}, (∃ s', (∀ j, L j = true → vs s j = vs s' j) ∧ u = vs s' i ∧ C s' (upd L i) w3) → ∃ s', (rgF ops (vs s) a L).put o.dst u = rgF ops (vs s') a (upd L i) ∧ C s' (upd L i) w3 := fun ⟨s', h1, h2, h3⟩ => by
   refine ⟨s', ?_, h3⟩
   rw [rgF_agree h1, h2]
   exact rgF_put hn ho
  unfold Oper.wp
  rw [ee]
  unfold stepW at hS
  revert hS
  generalize (execOp (view ops (vs s) a i) o).run P w' = r
  intro hS
  cases r with
  | halt x w2 => exact False.elim hS
  | ok n w2 =>
   cases n <;> first | exact False.elim hS | skip
   case value u => exact hput hS
   case skip => exact hput hS
   case enter f args =>
    exact Calls.mono hS fun e w3 h => by
     obtain ⟨u, rfl, hK⟩ := h
     exact hput hK
   case row row args => exact Rows.mono hS fun u w3 h => hput h
theorem region_holes {id : Nat} (vs : σ → Nat → Value) (C : σ → (Nat → Bool) → World → Prop) (s0 : σ) (hm : P.follows .mixedOrders = true) (hd : dag ops = true) (hn : rgOnce ops a.tmps.size = true) (hdep : depsOk ops = true) (hg : guardsOk ops = true) (hsel : noSel ops = true) (h0 : C s0 (fun _ => false) w.drew)
 (hstep : ∀ i o, ops[i]? = some o → ∀ s L w, C s L w → L i = false → (∀ j ∈ afters ops i, L j = true) → (∀ i, L i = true → ∀ j ∈ afters ops i, L j = true) → if wantV (vs s) o then stepW P o (view ops (vs s) a i) (fun u w' => ∃ s', (∀ j, L j = true → vs s j = vs s' j) ∧ u = vs s' i ∧ C s' (upd L i) w') w else undef = vs s i ∧ C s (upd L i) w)
 (hend : ∀ s L w, C s L w → (∀ i, i < ops.size → L i = true) → Q .normal (rgF ops (vs s) a fun _ => true) w) : (Code.region id ops true).wp P Q a w := by
 refine wp_region_inv_dc (I := fun L a' w' => ∃ s, a' = rgF ops (vs s) a L ∧ C s L w') hm hd ⟨s0, rgF_none.symm, h0⟩ ?_ ?_
 ·
  rintro i hi L a' w' ⟨s, ea, hC⟩ hL ha hdc
  subst ea
  exact step_holes vs C hn hdep hg hsel hstep hi hC hL ha hdc
 ·
  rintro L a' w' ⟨s, ea, hC⟩ hall
  rw [ea, rgF_all (L' := fun _ => true) hall]
  exact hend s L w' hC hall
theorem region_holes_lit {id : Nat} (vs : σ → Nat → Value) (C : σ → (Nat → Bool) → World → Prop) (s0 : σ) (ht : textOk ops = true) (hn : rgOnce ops a.tmps.size = true) (hdep : depsOk ops = true) (hg : guardsOk ops = true) (hsel : noSel ops = true) (h0 : C s0 (fun _ => false) w)
 (hstep : ∀ i o, ops[i]? = some o → ∀ s L w, C s L w → L i = false → (∀ j ∈ afters ops i, L j = true) → (∀ i, L i = true → ∀ j ∈ afters ops i, L j = true) → if wantV (vs s) o then stepW P o (view ops (vs s) a i) (fun u w' => ∃ s', (∀ j, L j = true → vs s j = vs s' j) ∧ u = vs s' i ∧ C s' (upd L i) w') w else undef = vs s i ∧ C s (upd L i) w)
 (hend : ∀ s L w, C s L w → (∀ i, i < ops.size → L i = true) → Q .normal (rgF ops (vs s) a fun _ => true) w) : (Code.region id ops false).wp P Q a w := by
 unfold textOk at ht
 rw [List.all_eq_true] at ht
 have haft : ∀ k, ∀ j ∈ afters ops k, j < k := fun k j hj => by
  by_cases c : k < ops.size
  ·
   have q := ht k (List.mem_range.2 c)
   rw [List.all_eq_true] at q
   simpa using q j hj
  ·
   have e : ops[k]? = none := Array.getElem?_eq_none (by omega)
   unfold afters at hj
   rw [e] at hj
   simp at hj
 refine wp_region ?_
 rw [List.range_eq_range']
 have key : ∀ m k s w, k + m = ops.size → C s (fun j => decide (j < k)) w → wpOps P ops Q (List.range' k m) (rgF ops (vs s) a fun j => decide (j < k)) w := by
  intro m
  induction m with
  | zero =>
   intro k s w hk hC
   show Q .normal _ w
   rw [rgF_all (L' := fun _ => true) (fun i hi => by simp; omega)]
   exact hend s _ w hC fun i hi => by simp; omega
  | succ m ih =>
   intro k s w hk hC
   rw [List.range'_succ, wpOps_cons]
   refine wpOp_mono (fun a' w' hq => ?_) (step_holes vs C hn hdep hg hsel hstep (by omega) hC (by simp) (fun j hj => by simpa using haft k j hj) (fun i hi j hj => by have := haft i j hj; simp at hi ⊢; omega))
   obtain ⟨s', rfl, hq⟩ := hq
   rw [upd_lt] at hq ⊢
   exact ih (k + 1) s' w' (by omega) hq
 have := key ops.size 0 s0 w (by omega) (by simpa using h0)
 have e : rgF ops (vs s0) a (fun j => decide (j < 0)) = a := by
  rw [show (fun j => decide (j < 0)) = fun _ : Nat => false from by funext j; simp]
  exact rgF_none
 rw [e] at this
 exact this
end
end
section
open Go.RowKit
section
variable {P : Program} {o : Oper} {w w' : World} {ρ : Operand → Value} {K : Value → World → Prop} {x y : Operand} {ty : TypeId} {p : Addr} {v : Value} {cs : Array Value}
theorem stepW_val (h : (execOp ρ o).run P w = .ok (.value v) w') (hK : K v w') : stepW P o ρ K w := by
 unfold stepW
 rw [h]
 exact hK
theorem stepW_call {f : FuncId} {args : Array Value} (h : (execOp ρ o).run P w = .ok (.enter f args) w) (hc : Calls P f args w fun e w'' => ∃ u, e = .returned u ∧ K u w'') : stepW P o ρ K w := by
 unfold stepW
 rw [h]
 exact hc
theorem stepW_load (ho : o.op = .load ty x) (hx : ρ x = .pointer (some p)) (hl : (Instr.loadAt ty (.pointer (some p))).run P w = .ok v w) (hK : K v w) : stepW P o ρ K w := by
 refine stepW_val (w' := w) (v := v) ?_ hK
 unfold execOp
 simp only [ho, hx, Sem.run_bind, Sem.run_pure, hl, Result.andThen]
theorem stepW_store (ho : o.op = .store ty x y) (hx : ρ x = .pointer (some p)) (hy : ρ y = v) (hs : (Instr.storeAt ty (.pointer (some p)) v).run P w = .ok () w') (hK : K undef w') : stepW P o ρ K w := by
 unfold stepW execOp
 simp only [ho, hx, hy, Sem.run_bind, Sem.run_pure, hs, Result.andThen]
 exact hK
end
end
section
open Go.RowKit
section
variable {σ : Type}
def cellsW (ops : Array Oper) (L : Nat → Bool) (w : World) (s : σ) (vs : Nat → Value) : List (Nat × (σ → Addr)) → Prop | [] => True | (i, p) :: l => ((∀ j ∈ afters ops i, L j = true) → w.cell? (p s) = some (vs i)) ∧ cellsW ops L w s vs l
variable {P : Program} {ops : Array Oper} {a : Act} {L : Nat → Bool} {w : World}
theorem cellsW_mem {s : σ} {vs : Nat → Value} : ∀ {l : List (Nat × (σ → Addr))} (h : cellsW ops L w s vs l) {e : Nat × (σ → Addr)}, e ∈ l → (∀ j ∈ afters ops e.1, L j = true) → w.cell? (e.2 s) = some (vs e.1)
 | (j, p) :: l, h, e, he => by
  rcases List.mem_cons.1 he with rfl | he
  ·
   exact h.1
  ·
   exact cellsW_mem h.2 he
theorem steps_of3 (vs : σ → Nat → Value) (C : σ → (Nat → Bool) → World → Prop) (ps qs : List Nat) (ls : List (Nat × (σ → Addr))) (rs : List Nat)
 (hcov : (List.range ops.size).all (fun i => ps.contains i || qs.contains i || (ls.map Prod.fst).contains i || rs.contains i) = true)
 (hpw : ∀ s, ps.map (wantI ops (vs s)) = ps.map fun _ => true) (hp : ∀ s w, ps.map (outV P ops (vs s) a w) = ps.map (ansV (vs s) w))
 (hqw : ∀ s, qs.map (wantI ops (vs s)) = qs.map fun _ => false) (hq : ∀ s, qs.map (vs s) = qs.map fun _ => undef)
 (hlw : ∀ s, ls.map (fun e => wantI ops (vs s) e.1) = ls.map fun _ => true) (hl : ∀ s, ls.map (fun e => ldAt P ops (vs s) a e.1) = ls.map fun e => (true, .pointer (some (e.2 s))))
 (hc : ∀ s L w, C s L w → cellsW ops L w s (vs s) ls)
 (hC : ∀ i, i ∈ ps ∨ i ∈ qs ∨ i ∈ ls.map Prod.fst → ∀ s L w, C s L w → C s (upd L i) w)
 (hr : ∀ i, i ∈ rs → ∀ s L w, C s L w → L i = false → (∀ j ∈ afters ops i, L j = true) → (∀ i, L i = true → ∀ j ∈ afters ops i, L j = true) → wantI ops (vs s) i = true ∧ ∀ o, ops[i]? = some o → stepW P o (view ops (vs s) a i) (fun u w' => ∃ s', (∀ j, L j = true → vs s j = vs s' j) ∧ u = vs s' i ∧ C s' (upd L i) w') w) :
 ∀ i o, ops[i]? = some o → ∀ s L w, C s L w → L i = false → (∀ j ∈ afters ops i, L j = true) → (∀ i, L i = true → ∀ j ∈ afters ops i, L j = true) → if wantV (vs s) o then stepW P o (view ops (vs s) a i) (fun u w' => ∃ s', (∀ j, L j = true → vs s j = vs s' j) ∧ u = vs s' i ∧ C s' (upd L i) w') w else undef = vs s i ∧ C s (upd L i) w := by
 intro i o ho s L w hcc hL ha hdc
 rw [List.all_eq_true] at hcov
 have q := hcov i (List.mem_range.2 (Array.getElem?_eq_some_iff.1 ho).1)
 have ew : wantI ops (vs s) i = wantV (vs s) o := by unfold wantI; rw [ho]
 rw [Bool.or_eq_true, Bool.or_eq_true, Bool.or_eq_true, List.contains_iff_mem, List.contains_iff_mem, List.contains_iff_mem, List.contains_iff_mem] at q
 rcases q with ((q | q) | q) | q
 ·
  have e1 : wantI ops (vs s) i = true := rg_map_mem (hpw s) q
  have e2 := rg_map_mem (hp s w) q
  rw [ew] at e1
  rw [if_pos e1]
  unfold outV ansV at e2
  rw [ho] at e2
  exact stepW_val e2 ⟨s, fun _ _ => rfl, rfl, hC i (.inl q) s L w hcc⟩
 ·
  have e1 : wantI ops (vs s) i = false := rg_map_mem (hqw s) q
  have e2 : vs s i = undef := rg_map_mem (hq s) q
  rw [ew] at e1
  rw [e1]
  exact ⟨e2.symm, hC i (.inr (.inl q)) s L w hcc⟩
 ·
  obtain ⟨e, he, rfl⟩ := List.mem_map.1 q
  have e1 : wantI ops (vs s) e.1 = true := rg_map_mem (hlw s) he
  rw [ew] at e1
  rw [if_pos e1]
  have q2 := rg_map_mem (hl s) he
  unfold ldAt at q2
  rw [ho] at q2
  have q2 : (match o.op with | .load ty x => (plainT (P.underlying ty), view ops (vs s) a e.1 x) | _ => (false, undef)) = (true, .pointer (some (e.2 s))) := q2
  split at q2
  ·
   next ty x hop =>
   injection q2 with q3 q4
   exact stepW_load hop q4 (run_loadAt_cell q3 (cellsW_mem (hc s L w hcc) he ha)) ⟨s, fun _ _ => rfl, rfl, hC e.1 (.inr (.inr q)) s L w hcc⟩
  ·
   injection q2 with q3 q4
   cases q3
 ·
  obtain ⟨e1, h⟩ := hr i q s L w hcc hL ha hdc
  rw [ew] at e1
  rw [if_pos e1]
  exact h o ho
end
end
section
open Go.RowKit
def seen (ρ : Operand → Value) : List (Nat × Value) → Prop | [] => True | (t, v) :: l => ρ (.tmp t) = v ∧ seen ρ l
def vsOf (l : List Value) (i : Nat) : Value := l.toArray.getD i undef
def putsZ : List Oper → List Value → Array Value → Array Value
 | ⟨some d, _, _, _, _, _⟩ :: l, v :: vs, t => putsZ l vs (t.setIfInBounds d v)
 | ⟨none, _, _, _, _, _⟩ :: l, _ :: vs, t => putsZ l vs t
 | _, _, t => t
section
variable {P : Program} {ops : Array Oper} {a : Act} {L : Nat → Bool} {i : Nat} {o : Oper} {w : World} {Q : Exit → Act → World → Prop} {σ : Type}
theorem getD_other {A B : Array Value} {i j : Nat} (h : A.setIfInBounds i undef = B.setIfInBounds i undef) (hj : j ≠ i) : A.getD j undef = B.getD j undef := by
 have q := congrArg (fun z => z[j]?) h
 simp only [Array.getElem?_setIfInBounds_ne (Ne.symm hj)] at q
 rw [Array.getD_eq_getD_getElem?, Array.getD_eq_getD_getElem?, q]
theorem vs_other {A B : List Value} (h : A.set i undef = B.set i undef) (hL : L i = false) : ∀ j, L j = true → vsOf A j = vsOf B j := fun j hj =>
 getD_other (i := i) (by simpa using h) fun e => by rw [e, hL] at hj; cases hj
theorem putsZ_some {d : Nat} {op ty pos aft g l v vs t} : putsZ (⟨some d, op, ty, pos, aft, g⟩ :: l) (v :: vs) t = putsZ l vs (t.setIfInBounds d v) := rfl
theorem putsZ_none {op ty pos aft g l v vs t} : putsZ (⟨none, op, ty, pos, aft, g⟩ :: l) (v :: vs) t = putsZ l vs t := rfl
theorem putsZ_nil {t vs} : putsZ [] vs t = t := by cases vs <;> rfl
theorem putsZ_size : ∀ (os : List Oper) (vs : List Value) (t : Array Value), (putsZ os vs t).size = t.size
 | [], vs, t => by rw [putsZ_nil]
 | _ :: _, [], t => by unfold putsZ; simp
 | ⟨some d, _, _, _, _, _⟩ :: l, v :: vs, t => by rw [putsZ_some, putsZ_size l vs]; simp
 | ⟨none, _, _, _, _, _⟩ :: l, v :: vs, t => by rw [putsZ_none, putsZ_size l vs]
theorem putsZ_at : ∀ (os : List Oper) (vs : List Value) (t : Array Value) (k : Nat), vs.length = os.length → (∀ (i j : Nat) (o o' : Oper) (d : Nat), os[i]? = some o → os[j]? = some o' → o.dst = some d → o'.dst = some d → i = j) → k < t.size →
 (putsZ os vs t)[k]? = match (List.range os.length).find? (fun i => (os[i]?.bind (·.dst)) == some k) with | some i => vs[i]? | none => t[k]?
 | [], [], t, k, h, hu, hk => by rw [putsZ_nil]; rfl
 | o :: os, v :: vs, t, k, h, hu, hk => by
  have hu' : ∀ (i j : Nat) (o o' : Oper) (d : Nat), os[i]? = some o → os[j]? = some o' → o.dst = some d → o'.dst = some d → i = j := fun i j o1 o2 d h1 h2 h3 h4 => by
   have := hu (i + 1) (j + 1) o1 o2 d (by simpa using h1) (by simpa using h2) h3 h4
   omega
  have h' : vs.length = os.length := by simpa using h
  have er : (List.range (o :: os).length).find? (fun i => ((o :: os)[i]?.bind (·.dst)) == some k) = if o.dst == some k then some 0 else ((List.range os.length).find? (fun i => (os[i]?.bind (·.dst)) == some k)).map (· + 1) := by
   rw [List.length_cons, List.range_succ_eq_map, List.find?_cons]
   have e0 : ((o :: os)[0]?.bind (·.dst) == some k) = (o.dst == some k) := rfl
   rw [e0]
   cases c : o.dst == some k with
   | true => simp
   | false =>
    simp only [Bool.false_eq_true, if_false]
    rw [List.find?_map]
    rfl
  rw [er]
  obtain ⟨dst, op, ty, pos, aft, g⟩ := o
  cases dst with
  | none =>
   rw [putsZ_none, putsZ_at os vs t k h' hu' hk]
   rw [if_neg (by simp)]
   cases (List.range os.length).find? (fun i => (os[i]?.bind (·.dst)) == some k) <;> simp
  | some d =>
   rw [putsZ_some, putsZ_at os vs _ k h' hu' (by simpa using hk)]
   by_cases c : d = k
   ·
    subst c
    rw [if_pos (by simp)]
    cases q : (List.range os.length).find? (fun i => (os[i]?.bind (·.dst)) == some d) with
    | none => simp [hk]
    | some i =>
     exfalso
     have q2 := List.find?_some q
     rw [beq_iff_eq] at q2
     cases q3 : os[i]? with
     | none => rw [q3] at q2; cases q2
     | some o2 =>
      rw [q3] at q2
      have := hu 0 (i + 1) _ o2 d rfl (by simpa using q3) rfl q2
      omega
   ·
    rw [if_neg (by simpa using c), Array.getElem?_setIfInBounds_ne c]
    cases (List.range os.length).find? (fun i => (os[i]?.bind (·.dst)) == some k) <;> simp
theorem rgF_puts {vals : List Value} (hn : rgOnce ops a.tmps.size = true) (hlen : vals.length = ops.size) : rgF ops (vsOf vals) a (fun _ => true) = { a with tmps := putsZ ops.toList vals a.tmps } := by
 unfold rgF
 have e : rgT ops (vsOf vals) a.tmps (fun _ => true) = putsZ ops.toList vals a.tmps := by
  refine Array.ext_getElem? fun k => ?_
  rw [rgT_at]
  by_cases hk : k < a.tmps.size
  ·
   have hu : ∀ (i j : Nat) (o o' : Oper) (d : Nat), ops.toList[i]? = some o → ops.toList[j]? = some o' → o.dst = some d → o'.dst = some d → i = j := fun i j o o' d h1 h2 h3 h4 => by
    have q1 := (rgOnce_at hn (i := i) (by rw [← Array.getElem?_toList]; exact h1) h3).1
    have q2 := (rgOnce_at hn (i := j) (by rw [← Array.getElem?_toList]; exact h2) h4).1
    rw [q1] at q2
    exact Option.some.inj q2
   rw [putsZ_at _ _ _ k (by simpa using hlen) hu hk, Array.getElem?_eq_getElem hk]
   have ew : (List.range ops.toList.length).find? (fun i => (ops.toList[i]?.bind (·.dst)) == some k) = wrOf ops k := by
    unfold wrOf
    simp
   rw [ew]
   cases c : wrOf ops k with
   | none => rfl
   | some i =>
    obtain ⟨o, h1, h2⟩ := wr_some c
    have hi : i < vals.length := by rw [hlen]; exact (Array.getElem?_eq_some_iff.1 h1).1
    show some (vsOf vals i) = vals[i]?
    unfold vsOf
    rw [List.getElem?_eq_getElem hi, Array.getD_eq_getD_getElem?]
    simp [hi]
  ·
   rw [Array.getElem?_eq_none (by omega), Array.getElem?_eq_none (by rw [putsZ_size]; omega)]
   rfl
 rw [e]
def rgOk (P : Program) (ops : Array Oper) (n : Nat) : Bool := P.follows .mixedOrders && dag ops && rgOnce ops n && depsOk ops && guardsOk ops && noSel ops
def rgOkL (ops : Array Oper) (n : Nat) : Bool := textOk ops && rgOnce ops n && depsOk ops && guardsOk ops && noSel ops
theorem rg {id : Nat} (vals : σ → List Value) (C : σ → (Nat → Bool) → World → Prop) (s0 : σ) (ps qs : List Nat) (ls : List (Nat × (σ → Addr))) (rs : List Nat) (hok : rgOk P ops a.tmps.size = true) (hlen : ∀ s, (vals s).length = ops.size)
 (hcov : (List.range ops.size).all (fun i => ps.contains i || qs.contains i || (ls.map Prod.fst).contains i || rs.contains i) = true)
 (hpw : ∀ s, ps.map (wantI ops (vsOf (vals s))) = ps.map fun _ => true) (hp : ∀ s w, ps.map (outV P ops (vsOf (vals s)) a w) = ps.map (ansV (vsOf (vals s)) w))
 (hqw : ∀ s, qs.map (wantI ops (vsOf (vals s))) = qs.map fun _ => false) (hq : ∀ s, qs.map (vsOf (vals s)) = qs.map fun _ => undef)
 (hlw : ∀ s, ls.map (fun e => wantI ops (vsOf (vals s)) e.1) = ls.map fun _ => true) (hl : ∀ s, ls.map (fun e => ldAt P ops (vsOf (vals s)) a e.1) = ls.map fun e => (true, .pointer (some (e.2 s))))
 (h0 : C s0 (fun _ => false) w.drew)
 (hc : ∀ s L w, C s L w → cellsW ops L w s (vsOf (vals s)) ls)
 (hC : ∀ i, i ∈ ps ∨ i ∈ qs ∨ i ∈ ls.map Prod.fst → ∀ s L w, C s L w → C s (upd L i) w)
 (hr : ∀ i, i ∈ rs → ∀ s L w, C s L w → L i = false → (∀ j ∈ afters ops i, L j = true) → (∀ i, L i = true → ∀ j ∈ afters ops i, L j = true) → wantI ops (vsOf (vals s)) i = true ∧ ∀ o, ops[i]? = some o → stepW P o (view ops (vsOf (vals s)) a i) (fun u w' => ∃ s', (∀ j, L j = true → vsOf (vals s) j = vsOf (vals s') j) ∧ u = vsOf (vals s') i ∧ C s' (upd L i) w') w)
 (hend : ∀ s L w, C s L w → (∀ i, i < ops.size → L i = true) → Q .normal { a with tmps := putsZ ops.toList (vals s) a.tmps } w) : (Code.region id ops true).wp P Q a w := by
 unfold rgOk at hok
 simp only [Bool.and_eq_true] at hok
 obtain ⟨⟨⟨⟨⟨k1, k2⟩, k3⟩, k4⟩, k5⟩, k6⟩ := hok
 exact region_holes (fun s => vsOf (vals s)) C s0 k1 k2 k3 k4 k5 k6 h0 (steps_of3 _ C ps qs ls rs hcov hpw hp hqw hq hlw hl hc hC hr) fun s L w h1 h2 => by rw [rgF_puts k3 (hlen s)]; exact hend s L w h1 h2
theorem rgl {id : Nat} (vals : σ → List Value) (C : σ → (Nat → Bool) → World → Prop) (s0 : σ) (ps qs : List Nat) (ls : List (Nat × (σ → Addr))) (rs : List Nat) (hok : rgOkL ops a.tmps.size = true) (hlen : ∀ s, (vals s).length = ops.size)
 (hcov : (List.range ops.size).all (fun i => ps.contains i || qs.contains i || (ls.map Prod.fst).contains i || rs.contains i) = true)
 (hpw : ∀ s, ps.map (wantI ops (vsOf (vals s))) = ps.map fun _ => true) (hp : ∀ s w, ps.map (outV P ops (vsOf (vals s)) a w) = ps.map (ansV (vsOf (vals s)) w))
 (hqw : ∀ s, qs.map (wantI ops (vsOf (vals s))) = qs.map fun _ => false) (hq : ∀ s, qs.map (vsOf (vals s)) = qs.map fun _ => undef)
 (hlw : ∀ s, ls.map (fun e => wantI ops (vsOf (vals s)) e.1) = ls.map fun _ => true) (hl : ∀ s, ls.map (fun e => ldAt P ops (vsOf (vals s)) a e.1) = ls.map fun e => (true, .pointer (some (e.2 s))))
 (h0 : C s0 (fun _ => false) w)
 (hc : ∀ s L w, C s L w → cellsW ops L w s (vsOf (vals s)) ls)
 (hC : ∀ i, i ∈ ps ∨ i ∈ qs ∨ i ∈ ls.map Prod.fst → ∀ s L w, C s L w → C s (upd L i) w)
 (hr : ∀ i, i ∈ rs → ∀ s L w, C s L w → L i = false → (∀ j ∈ afters ops i, L j = true) → (∀ i, L i = true → ∀ j ∈ afters ops i, L j = true) → wantI ops (vsOf (vals s)) i = true ∧ ∀ o, ops[i]? = some o → stepW P o (view ops (vsOf (vals s)) a i) (fun u w' => ∃ s', (∀ j, L j = true → vsOf (vals s) j = vsOf (vals s') j) ∧ u = vsOf (vals s') i ∧ C s' (upd L i) w') w)
 (hend : ∀ s L w, C s L w → (∀ i, i < ops.size → L i = true) → Q .normal { a with tmps := putsZ ops.toList (vals s) a.tmps } w) : (Code.region id ops false).wp P Q a w := by
 unfold rgOkL at hok
 simp only [Bool.and_eq_true] at hok
 obtain ⟨⟨⟨⟨k2, k3⟩, k4⟩, k5⟩, k6⟩ := hok
 exact region_holes_lit (fun s => vsOf (vals s)) C s0 k2 k3 k4 k5 k6 h0 (steps_of3 _ C ps qs ls rs hcov hpw hp hqw hq hlw hl hc hC hr) fun s L w h1 h2 => by rw [rgF_puts k3 (hlen s)]; exact hend s L w h1 h2
end
end
end Go.Proofs.YtccbdmccfbjmeaaDoor
