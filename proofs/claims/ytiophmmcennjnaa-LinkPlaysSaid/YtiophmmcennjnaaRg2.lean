/- A region as a whole: the law. -/
import Derived.Test.YtiophmmcennjnaaRg1
namespace Go.Proofs.Ytiophmmcennjnaa
open Go.RowKit
set_option linter.unusedSimpArgs false
set_option linter.unusedVariables false

/-- Is it wanted, by the final values. -/
def wantV (vs : Nat → Value) (o : Oper) : Bool := match o.guard with | none => true | some (j, want) => match vs j with | .bool b => b == want | _ => false
def guardOk (ops : Array Oper) (i : Nat) : Bool := match ops[i]? with | some o => (match o.guard with | none => true | some (j, _) => (afters ops i).contains j && (ops[j]?.bind (·.dst)).isSome) | none => true
def guardsOk (ops : Array Oper) : Bool := (List.range ops.size).all (guardOk ops)
def isSel : Op → Bool | .select _ _ => true | _ => false
def noSel (ops : Array Oper) : Bool := ops.all fun o => !isSel o.op
/-- What an operation must answer over what it sees. -/
def stepV (P : Program) (o : Oper) (ρ : Operand → Value) (v : Value) (K : World → Prop) (w : World) : Prop :=
  match (execOp ρ o).run P w with
  | .ok (.value u) w' => u = v ∧ K w'
  | .ok .skip w' => undef = v ∧ K w'
  | .ok (.enter f args) w' => Calls P f args w' fun e w'' => e = .returned v ∧ K w''
  | .ok (.row row args) w' => Rows P row args w' fun u w'' => u = v ∧ K w''
  | _ => False
section
variable {P : Program} {ops : Array Oper} {vs : Nat → Value} {a : Act} {L : Nat → Bool} {i : Nat} {o : Oper} {w : World} {Q : Exit → Act → World → Prop}
theorem wanted_rgF (hn : rgOnce ops a.tmps.size = true) (hg : guardsOk ops = true) (ho : ops[i]? = some o) (ha : ∀ j ∈ afters ops i, L j = true) : Region.wanted o (yielded ops (rgF ops vs a L).tmps) = wantV vs o := by
  unfold guardsOk at hg
  rw [List.all_eq_true] at hg
  have q := hg i (List.mem_range.2 (Array.getElem?_eq_some_iff.1 ho).1)
  unfold guardOk at q
  rw [ho] at q
  unfold Region.wanted wantV
  cases c : o.guard with
  | none => rfl
  | some g =>
    obtain ⟨j, want⟩ := g
    have q : (match o.guard with | none => true | some (j, _) => (afters ops i).contains j && (ops[j]?.bind (·.dst)).isSome) = true := q
    rw [c] at q
    have q : ((afters ops i).contains j && (ops[j]?.bind (·.dst)).isSome) = true := q
    rw [Bool.and_eq_true] at q
    obtain ⟨q1, q2⟩ := q
    have hj := ha j (by simpa using q1)
    obtain ⟨d, hd⟩ := Option.isSome_iff_exists.1 q2
    cases c2 : ops[j]? with
    | none => rw [c2] at hd; cases hd
    | some o2 =>
      rw [c2] at hd
      obtain ⟨h1, h2⟩ := rgOnce_at hn c2 hd
      have e : (rgT ops vs a.tmps L)[d]? = some (vs j) := by
        rw [rgT_at, Array.getElem?_eq_getElem h2, h1]
        show some (bif L j then _ else _) = _
        rw [hj]
        rfl
      show (yielded ops (rgT ops vs a.tmps L) j == some want) = match vs j with | .bool b => b == want | _ => false
      unfold yielded
      rw [c2, hd]
      show ((match (rgT ops vs a.tmps L)[d]? with | some (.bool b) => some b | _ => none) == some want) = _
      rw [e]
      cases vs j <;> first | rfl | (rename_i b; cases b <;> cases want <;> rfl)
theorem rgF_all {L' : Nat → Bool} (h : ∀ i, i < ops.size → L i = L' i) : rgF ops vs a L = rgF ops vs a L' := by
  unfold rgF
  have e : rgT ops vs a.tmps L = rgT ops vs a.tmps L' := by
    refine Array.ext_getElem? fun k => ?_
    rw [rgT_at, rgT_at]
    congr 1
    funext old
    cases c : wrOf ops k with
    | none => rfl
    | some j =>
      obtain ⟨o2, h1, h2⟩ := wr_some c
      show (bif L j then _ else _) = bif L' j then _ else _
      rw [h j (Array.getElem?_eq_some_iff.1 h1).1]
  rw [e]
/-- One step. -/
theorem step_view (C : (Nat → Bool) → World → Prop) (hn : rgOnce ops a.tmps.size = true) (hdep : depsOk ops = true) (hg : guardsOk ops = true) (hsel : noSel ops = true)
    (hstep : ∀ i o, ops[i]? = some o → ∀ L w, C L w → L i = false → (∀ j ∈ afters ops i, L j = true) → if wantV vs o then stepV P o (view ops vs a i) (vs i) (fun w' => C (upd L i) w') w else undef = vs i ∧ C (upd L i) w)
    (hi : i < ops.size) {w' : World} (hC : C L w') (hL : L i = false) (ha : ∀ j ∈ afters ops i, L j = true) (hdc : ∀ i, L i = true → ∀ j ∈ afters ops i, L j = true) : wpOp P ops Q i (fun a' w' => a' = rgF ops vs a (upd L i) ∧ C (upd L i) w') (rgF ops vs a L) w' := by
  have ho : ops[i]? = some ops[i] := Array.getElem?_eq_getElem hi
  generalize ops[i] = o at ho
  have hS := hstep i o ho L w' hC hL ha
  have hW := wanted_rgF (L := L) (vs := vs) hn hg ho ha
  cases c : wantV vs o with
  | false =>
    rw [c] at hS hW
    obtain ⟨e, hK⟩ := hS
    refine i_not ho hW ⟨?_, hK⟩
    rw [← rgF_put hn ho, ← e]
  | true =>
    rw [c] at hS hW
    have hS : stepV P o (view ops vs a i) (vs i) (fun w' => C (upd L i) w') w' := hS
    refine i_wp ho hW ?_
    have hns : ∀ cs b, o.op ≠ .select cs b := fun cs b e => by
      unfold noSel at hsel
      rw [Array.all_eq_true] at hsel
      have := hsel i hi
      rw [Array.getElem?_eq_getElem hi] at ho
      injection ho with ho
      rw [ho, e] at this
      cases this
    have ee : execOp (rgF ops vs a L).eval o = execOp (view ops vs a i) o := exec_congr hns fun x hx => view_eq hn hdep ho hL ha hdc hx
    have hput := rgF_put (L := L) (vs := vs) hn ho
    unfold Oper.wp
    rw [ee]
    unfold stepV at hS
    revert hS
    generalize (execOp (view ops vs a i) o).run P w' = r
    intro hS
    cases r with
    | halt x w2 => exact False.elim hS
    | ok n w2 =>
      cases n <;> first | exact False.elim hS | skip
      case value u =>
        obtain ⟨e, hK⟩ := hS
        subst e
        exact ⟨hput, hK⟩
      case skip =>
        obtain ⟨e, hK⟩ := hS
        refine ⟨?_, hK⟩
        rw [← hput, ← e]
      case enter f args =>
        exact Calls.mono hS fun e w3 h => by
          obtain ⟨rfl, hK⟩ := h
          exact ⟨hput, hK⟩
      case row row args =>
        exact Rows.mono hS fun u w3 h => by
          obtain ⟨e, hK⟩ := h
          subst e
          exact ⟨hput, hK⟩
theorem region_view {id : Nat} (vs : Nat → Value) (C : (Nat → Bool) → World → Prop) (hm : P.follows .mixedOrders = true) (hd : dag ops = true) (hn : rgOnce ops a.tmps.size = true) (hdep : depsOk ops = true) (hg : guardsOk ops = true) (hsel : noSel ops = true) (h0 : C (fun _ => false) w.drew)
    (hstep : ∀ i o, ops[i]? = some o → ∀ L w, C L w → L i = false → (∀ j ∈ afters ops i, L j = true) → if wantV vs o then stepV P o (view ops vs a i) (vs i) (fun w' => C (upd L i) w') w else undef = vs i ∧ C (upd L i) w)
    (hend : ∀ L w, C L w → (∀ i, i < ops.size → L i = true) → Q .normal (rgF ops vs a fun _ => true) w) : (Code.region id ops true).wp P Q a w := by
  refine wp_region_inv_dc (I := fun L a' w' => a' = rgF ops vs a L ∧ C L w') hm hd ⟨rgF_none.symm, h0⟩ ?_ ?_
  · rintro i hi L a' w' ⟨ea, hC⟩ hL ha hdc
    subst ea
    exact step_view C hn hdep hg hsel hstep hi hC hL ha hdc
  · rintro L a' w' ⟨ea, hC⟩ hall
    rw [ea, rgF_all (L' := fun _ => true) hall]
    exact hend L w' hC hall
/-- A region in the text's order. -/
def textOk (ops : Array Oper) : Bool := (List.range ops.size).all fun i => (afters ops i).all fun j => decide (j < i)
theorem upd_lt (k : Nat) : upd (fun j => decide (j < k)) k = fun j => decide (j < k + 1) := by
  funext j
  unfold upd
  split
  · subst_vars; simp
  · rw [Bool.eq_iff_iff]; simp; omega
theorem region_view_lit {id : Nat} (vs : Nat → Value) (C : (Nat → Bool) → World → Prop) (ht : textOk ops = true) (hn : rgOnce ops a.tmps.size = true) (hdep : depsOk ops = true) (hg : guardsOk ops = true) (hsel : noSel ops = true) (h0 : C (fun _ => false) w)
    (hstep : ∀ i o, ops[i]? = some o → ∀ L w, C L w → L i = false → (∀ j ∈ afters ops i, L j = true) → if wantV vs o then stepV P o (view ops vs a i) (vs i) (fun w' => C (upd L i) w') w else undef = vs i ∧ C (upd L i) w)
    (hend : ∀ L w, C L w → (∀ i, i < ops.size → L i = true) → Q .normal (rgF ops vs a fun _ => true) w) : (Code.region id ops false).wp P Q a w := by
  unfold textOk at ht
  rw [List.all_eq_true] at ht
  have haft : ∀ k, ∀ j ∈ afters ops k, j < k := fun k j hj => by
    by_cases c : k < ops.size
    · have q := ht k (List.mem_range.2 c)
      rw [List.all_eq_true] at q
      simpa using q j hj
    · have e : ops[k]? = none := Array.getElem?_eq_none (by omega)
      unfold afters at hj
      rw [e] at hj
      simp at hj
  refine wp_region ?_
  rw [List.range_eq_range']
  have key : ∀ m k w, k + m = ops.size → C (fun j => decide (j < k)) w → wpOps P ops Q (List.range' k m) (rgF ops vs a fun j => decide (j < k)) w := by
    intro m
    induction m with
    | zero =>
      intro k w hk hC
      show Q .normal _ w
      rw [rgF_all (L' := fun _ => true) (fun i hi => by simp; omega)]
      exact hend _ w hC fun i hi => by simp; omega
    | succ m ih =>
      intro k w hk hC
      rw [List.range'_succ, wpOps_cons]
      refine wpOp_mono (fun a' w' hq => ?_) (step_view C hn hdep hg hsel hstep (by omega) hC (by simp) (fun j hj => by simpa using haft k j hj) (fun i hi j hj => by have := haft i j hj; simp at hi ⊢; omega))
      obtain ⟨rfl, hq⟩ := hq
      rw [upd_lt] at hq ⊢
      exact ih (k + 1) w' (by omega) hq
  have := key ops.size 0 w (by omega) (by simpa using h0)
  have e : rgF ops vs a (fun j => decide (j < 0)) = a := by
    rw [show (fun j => decide (j < 0)) = fun _ : Nat => false from by funext j; simp]
    exact rgF_none
  rw [e] at this
  exact this
end
end Go.Proofs.Ytiophmmcennjnaa
