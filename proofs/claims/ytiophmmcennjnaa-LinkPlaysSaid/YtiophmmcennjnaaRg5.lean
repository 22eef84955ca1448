/- A region as a whole, where some values come up while it runs (blocks made, answers of calls). -/
import Derived.Test.YtiophmmcennjnaaRg4
namespace Go.Proofs.Ytiophmmcennjnaa
open Go.RowKit
set_option linter.unusedVariables false
set_option linter.unusedSimpArgs false

/-- What an operation answers, whatever it is. -/
def stepW (P : Program) (o : Oper) (ρ : Operand → Value) (K : Value → World → Prop) (w : World) : Prop :=
  match (execOp ρ o).run P w with
  | .ok (.value u) w' => K u w'
  | .ok .skip w' => K undef w'
  | .ok (.enter f args) w' => Calls P f args w' fun e w'' => ∃ u, e = .returned u ∧ K u w''
  | .ok (.row row args) w' => Rows P row args w' fun u w'' => K u w''
  | _ => False
section
variable {P : Program} {ops : Array Oper} {a : Act} {L : Nat → Bool} {i : Nat} {o : Oper} {w : World} {Q : Exit → Act → World → Prop} {σ : Type}
theorem stepW_of {ρ : Operand → Value} {v : Value} {K : World → Prop} {K' : Value → World → Prop} (h : stepV P o ρ v K w) (hk : ∀ w, K w → K' v w) : stepW P o ρ K' w := by
  unfold stepV at h
  unfold stepW
  revert h
  generalize (execOp ρ o).run P w = r
  intro h
  cases r with
  | halt x w2 => exact False.elim h
  | ok n w2 =>
    cases n <;> first | exact False.elim h | skip
    case value u => obtain ⟨e, h⟩ := h; subst e; exact hk _ h
    case skip => obtain ⟨e, h⟩ := h; subst e; exact hk _ h
    case enter f args => exact Calls.mono h fun e w3 q => ⟨v, q.1, hk _ q.2⟩
    case row row args => exact Rows.mono h fun u w3 q => by obtain ⟨e, q⟩ := q; subst e; exact hk _ q
theorem rgF_agree {vs vs' : Nat → Value} (h : ∀ j, L j = true → vs j = vs' j) : rgF ops vs a L = rgF ops vs' a L := by
  unfold rgF
  have e : rgT ops vs a.tmps L = rgT ops vs' a.tmps L := by
    refine Array.ext_getElem? fun k => ?_
    rw [rgT_at, rgT_at]
    congr 1
    funext old
    cases c : wrOf ops k with
    | none => rfl
    | some j =>
      show (bif L j then _ else _) = bif L j then _ else _
      cases c2 : L j with
      | false => rfl
      | true => exact h j c2
  rw [e]
theorem step_holes (vs : σ → Nat → Value) (C : σ → (Nat → Bool) → World → Prop) (hn : rgOnce ops a.tmps.size = true) (hdep : depsOk ops = true) (hg : guardsOk ops = true) (hsel : noSel ops = true)
    (hstep : ∀ i o, ops[i]? = some o → ∀ s L w, C s L w → L i = false → (∀ j ∈ afters ops i, L j = true) → (∀ i, L i = true → ∀ j ∈ afters ops i, L j = true) → if wantV (vs s) o then stepW P o (view ops (vs s) a i) (fun u w' => ∃ s', (∀ j, L j = true → vs s j = vs s' j) ∧ u = vs s' i ∧ C s' (upd L i) w') w else undef = vs s i ∧ C s (upd L i) w)
    (hi : i < ops.size) {s : σ} {w' : World} (hC : C s L w') (hL : L i = false) (ha : ∀ j ∈ afters ops i, L j = true) (hdc : ∀ i, L i = true → ∀ j ∈ afters ops i, L j = true) : wpOp P ops Q i (fun a' w' => ∃ s, a' = rgF ops (vs s) a (upd L i) ∧ C s (upd L i) w') (rgF ops (vs s) a L) w' := by
  have ho : ops[i]? = some ops[i] := Array.getElem?_eq_getElem hi
  generalize ops[i] = o at ho
  have hS := hstep i o ho s L w' hC hL ha hdc
  have hW := wanted_rgF (L := L) (vs := vs s) hn hg ho ha
  cases c : wantV (vs s) o with
  | false =>
    rw [c] at hS hW
    obtain ⟨e, hK⟩ := hS
    refine i_not ho hW ⟨s, ?_, hK⟩
    rw [← rgF_put hn ho, ← e]
  | true =>
    rw [c] at hS hW
    have hS : stepW P o (view ops (vs s) a i) (fun u w' => ∃ s', (∀ j, L j = true → vs s j = vs s' j) ∧ u = vs s' i ∧ C s' (upd L i) w') w' := hS
    refine i_wp ho hW ?_
    have hns : ∀ cs b, o.op ≠ .select cs b := fun cs b e => by
      unfold noSel at hsel
      rw [Array.all_eq_true] at hsel
      have := hsel i hi
      rw [Array.getElem?_eq_getElem hi] at ho
      injection ho with ho
      rw [ho, e] at this
      cases this
    have ee : execOp (rgF ops (vs s) a L).eval o = execOp (view ops (vs s) a i) o := exec_congr hns fun x hx => view_eq hn hdep ho hL ha hdc hx
    have hput : ∀ {u : Value} {w3 : World}, (∃ s', (∀ j, L j = true → vs s j = vs s' j) ∧ u = vs s' i ∧ C s' (upd L i) w3) → ∃ s', (rgF ops (vs s) a L).put o.dst u = rgF ops (vs s') a (upd L i) ∧ C s' (upd L i) w3 := fun ⟨s', h1, h2, h3⟩ => by
      refine ⟨s', ?_, h3⟩
      rw [rgF_agree h1, h2]
      exact rgF_put hn ho
    unfold Oper.wp
    rw [ee]
    unfold stepW at hS
    revert hS
    generalize (execOp (view ops (vs s) a i) o).run P w' = r
    intro hS
    cases r with
    | halt x w2 => exact False.elim hS
    | ok n w2 =>
      cases n <;> first | exact False.elim hS | skip
      case value u => exact hput hS
      case skip => exact hput hS
      case enter f args =>
        exact Calls.mono hS fun e w3 h => by
          obtain ⟨u, rfl, hK⟩ := h
          exact hput hK
      case row row args => exact Rows.mono hS fun u w3 h => hput h
theorem region_holes {id : Nat} (vs : σ → Nat → Value) (C : σ → (Nat → Bool) → World → Prop) (s0 : σ) (hm : P.follows .mixedOrders = true) (hd : dag ops = true) (hn : rgOnce ops a.tmps.size = true) (hdep : depsOk ops = true) (hg : guardsOk ops = true) (hsel : noSel ops = true) (h0 : C s0 (fun _ => false) w.drew)
    (hstep : ∀ i o, ops[i]? = some o → ∀ s L w, C s L w → L i = false → (∀ j ∈ afters ops i, L j = true) → (∀ i, L i = true → ∀ j ∈ afters ops i, L j = true) → if wantV (vs s) o then stepW P o (view ops (vs s) a i) (fun u w' => ∃ s', (∀ j, L j = true → vs s j = vs s' j) ∧ u = vs s' i ∧ C s' (upd L i) w') w else undef = vs s i ∧ C s (upd L i) w)
    (hend : ∀ s L w, C s L w → (∀ i, i < ops.size → L i = true) → Q .normal (rgF ops (vs s) a fun _ => true) w) : (Code.region id ops true).wp P Q a w := by
  refine wp_region_inv_dc (I := fun L a' w' => ∃ s, a' = rgF ops (vs s) a L ∧ C s L w') hm hd ⟨s0, rgF_none.symm, h0⟩ ?_ ?_
  · rintro i hi L a' w' ⟨s, ea, hC⟩ hL ha hdc
    subst ea
    exact step_holes vs C hn hdep hg hsel hstep hi hC hL ha hdc
  · rintro L a' w' ⟨s, ea, hC⟩ hall
    rw [ea, rgF_all (L' := fun _ => true) hall]
    exact hend s L w' hC hall
theorem region_holes_lit {id : Nat} (vs : σ → Nat → Value) (C : σ → (Nat → Bool) → World → Prop) (s0 : σ) (ht : textOk ops = true) (hn : rgOnce ops a.tmps.size = true) (hdep : depsOk ops = true) (hg : guardsOk ops = true) (hsel : noSel ops = true) (h0 : C s0 (fun _ => false) w)
    (hstep : ∀ i o, ops[i]? = some o → ∀ s L w, C s L w → L i = false → (∀ j ∈ afters ops i, L j = true) → (∀ i, L i = true → ∀ j ∈ afters ops i, L j = true) → if wantV (vs s) o then stepW P o (view ops (vs s) a i) (fun u w' => ∃ s', (∀ j, L j = true → vs s j = vs s' j) ∧ u = vs s' i ∧ C s' (upd L i) w') w else undef = vs s i ∧ C s (upd L i) w)
    (hend : ∀ s L w, C s L w → (∀ i, i < ops.size → L i = true) → Q .normal (rgF ops (vs s) a fun _ => true) w) : (Code.region id ops false).wp P Q a w := by
  unfold textOk at ht
  rw [List.all_eq_true] at ht
  have haft : ∀ k, ∀ j ∈ afters ops k, j < k := fun k j hj => by
    by_cases c : k < ops.size
    · have q := ht k (List.mem_range.2 c)
      rw [List.all_eq_true] at q
      simpa using q j hj
    · have e : ops[k]? = none := Array.getElem?_eq_none (by omega)
      unfold afters at hj
      rw [e] at hj
      simp at hj
  refine wp_region ?_
  rw [List.range_eq_range']
  have key : ∀ m k s w, k + m = ops.size → C s (fun j => decide (j < k)) w → wpOps P ops Q (List.range' k m) (rgF ops (vs s) a fun j => decide (j < k)) w := by
    intro m
    induction m with
    | zero =>
      intro k s w hk hC
      show Q .normal _ w
      rw [rgF_all (L' := fun _ => true) (fun i hi => by simp; omega)]
      exact hend s _ w hC fun i hi => by simp; omega
    | succ m ih =>
      intro k s w hk hC
      rw [List.range'_succ, wpOps_cons]
      refine wpOp_mono (fun a' w' hq => ?_) (step_holes vs C hn hdep hg hsel hstep (by omega) hC (by simp) (fun j hj => by simpa using haft k j hj) (fun i hi j hj => by have := haft i j hj; simp at hi ⊢; omega))
      obtain ⟨s', rfl, hq⟩ := hq
      rw [upd_lt] at hq ⊢
      exact ih (k + 1) s' w' (by omega) hq
  have := key ops.size 0 s0 w (by omega) (by simpa using h0)
  have e : rgF ops (vs s0) a (fun j => decide (j < 0)) = a := by
    rw [show (fun j => decide (j < 0)) = fun _ : Nat => false from by funext j; simp]
    exact rgF_none
  rw [e] at this
  exact this
end
end Go.Proofs.Ytiophmmcennjnaa
