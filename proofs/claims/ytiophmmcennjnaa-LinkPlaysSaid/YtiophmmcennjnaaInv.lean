/- Regions that draw their order, by an invariant over what has come up; with no program in sight. -/
import Derived.RegionTactic
import Derived.Laws.Tables
import Derived.WalkKit
import Derived.Lib.Hide
namespace Go.Proofs.Ytiophmmcennjnaa
open Go.RowKit

/-- .. and operation i, too. -/
def upd (L : Nat → Bool) (i j : Nat) : Bool := if j = i then true else L j

/-- For which ones operation i waits. -/
def afters (ops : Array Oper) (i : Nat) : List Nat :=
  match ops[i]? with
  | some o => (o.after.toList.filter (Region.binds .any)).map (·.on)
  | none => []

/-- Each waits for earlier ones alone. -/
def dag (ops : Array Oper) : Bool := (List.range ops.size).all fun i => (afters ops i).all fun j => decide (j < i)

section
variable {P : Program} {ops : Array Oper} {Q : Exit → Act → World → Prop}

def lis (l : Array Bool) (j : Nat) : Bool := l.getD j false

theorem lis_set {l : Array Bool} {i : Nat} (h : i < l.size) : lis (l.setIfInBounds i true) = upd (lis l) i := by
  funext j
  unfold lis upd
  by_cases c : j = i
  · subst c
    simp [h]
  · rw [if_neg c]
    simp only [Array.getD_eq_getD_getElem?]
    rw [Array.getElem?_setIfInBounds_ne (by omega)]

theorem count_set {l : Array Bool} {i : Nat} (h : i < l.size) (hf : lis l i = false) : (l.setIfInBounds i true).toList.count false + 1 = l.toList.count false := by
  have hl : i < l.toList.length := by simpa using h
  have hv : l.toList[i] = false := by
    unfold lis at hf
    simpa [h] using hf
  rw [Array.toList_setIfInBounds, List.count_set hl, hv]
  have : 0 < l.toList.count false := List.count_pos_iff.2 (by rw [← hv]; exact List.getElem_mem hl)
  have a1 : (if (false == false) = true then 1 else 0) = 1 := by decide
  have a2 : (if (true == false) = true then 1 else 0) = 0 := by decide
  rw [a1, a2]
  omega

theorem mem_afters {i : Nat} {o : Oper} (ho : ops[i]? = some o) (j : Nat) : j ∈ afters ops i ↔ ∃ e ∈ o.after, Region.binds .any e = true ∧ e.on = j := by
  unfold afters
  rw [ho]
  simp [and_assoc]

theorem dag_at (hd : dag ops = true) {i : Nat} (hi : i < ops.size) {j : Nat} (hj : j ∈ afters ops i) : j < i := by
  unfold dag at hd
  rw [List.all_eq_true] at hd
  have h1 := hd i (List.mem_range.2 hi)
  rw [List.all_eq_true] at h1
  simpa using h1 j hj

/-- Where nothing may come up, all has come up. -/
theorem all_of_none (hd : dag ops = true) {l : Array Bool} (hl : l.size = ops.size) (hr : Region.ready .any ops l = []) : ∀ i, i < ops.size → lis l i = true := by
  intro i
  induction i using Nat.strongRecOn with
  | _ i ih =>
    intro hi
    cases hc : lis l i with
    | true => rfl
    | false =>
      have : i ∈ Region.ready .any ops l := by
        rw [mem_ready]
        refine ⟨?_, ops[i], Array.getElem?_eq_getElem hi, fun e he hb => ?_⟩
        · unfold lis at hc
          simpa [hl, hi] using hc
        · have hj : e.on ∈ afters ops i := (mem_afters (Array.getElem?_eq_getElem hi) _).2 ⟨e, he, hb, rfl⟩
          have hlt := dag_at hd hi hj
          exact ih e.on hlt (by omega)
      rw [hr] at this
      cases this

theorem wpAny_inv (I : (Nat → Bool) → Act → World → Prop) (hd : dag ops = true)
    (hstep : ∀ i, i < ops.size → ∀ L a w, I L a w → L i = false → (∀ j ∈ afters ops i, L j = true) → wpOp P ops Q i (fun a' w' => I (upd L i) a' w') a w)
    (hend : ∀ L a w, I L a w → (∀ i, i < ops.size → L i = true) → Q .normal a w) :
    ∀ fuel (l : Array Bool) a w, l.size = ops.size → l.toList.count false ≤ fuel → I (lis l) a w → wpAny P .any ops Q fuel l a w := by
  intro fuel
  induction fuel with
  | zero =>
    intro l a w hl hc hI
    have hall : ∀ i, i < ops.size → lis l i = true := by
      intro i hi
      cases hv : lis l i with
      | true => rfl
      | false =>
        have := count_set (l := l) (by omega) hv
        omega
    refine ⟨?_, hend _ _ _ hI hall⟩
    cases hr : Region.ready .any ops l with
    | nil => rfl
    | cons i r =>
      have hm : i ∈ Region.ready .any ops l := by rw [hr]; exact List.mem_cons_self
      obtain ⟨h1, o, ho, -⟩ := mem_ready.1 hm
      have hi := (Array.getElem?_eq_some_iff.1 ho).1
      have h2 := hall i hi
      unfold lis at h2
      simp [hl, hi] at h1 h2
      rw [h1] at h2
      cases h2
  | succ fuel ih =>
    intro l a w hl hc hI
    refine ⟨fun hr => hend _ _ _ hI (all_of_none hd hl hr), fun i hm => ?_⟩
    obtain ⟨h1, o, ho, h2⟩ := mem_ready.1 hm
    have hi := (Array.getElem?_eq_some_iff.1 ho).1
    have hf : lis l i = false := by
      unfold lis
      simpa [hl, hi] using h1
    refine wpOp_mono (fun a' w' hI' => ?_) (hstep i hi (lis l) a w hI hf (fun j hj => ?_))
    · refine ih _ a' w' (by simpa using hl) ?_ ?_
      · have := count_set (l := l) (by omega) hf
        omega
      · rw [lis_set (by omega)]
        exact hI'
    · obtain ⟨e, he, hb, rfl⟩ := (mem_afters ho j).1 hj
      exact h2 e he hb

theorem wp_region_inv {id : Nat} {a : Act} {w : World} (I : (Nat → Bool) → Act → World → Prop) (hm : P.follows .mixedOrders = true) (hd : dag ops = true) (h0 : I (fun _ => false) a w.drew)
    (hstep : ∀ i, i < ops.size → ∀ L a w, I L a w → L i = false → (∀ j ∈ afters ops i, L j = true) → wpOp P ops Q i (fun a' w' => I (upd L i) a' w') a w)
    (hend : ∀ L a w, I L a w → (∀ i, i < ops.size → L i = true) → Q .normal a w) : (Code.region id ops true).wp P Q a w := by
  refine wp_region_any hm (wpAny_inv I hd hstep hend ops.size _ a _ (by simp) (by simp) ?_)
  have e : lis (Array.replicate ops.size false) = fun _ => false := by
    funext j
    unfold lis
    by_cases c : j < ops.size <;> simp [c]
  rw [e]
  exact h0

variable {i : Nat} {o : Oper} {a : Act} {w : World} {K : Act → World → Prop}

/-- One that yields a value. -/
theorem i_val (ho : ops[i]? = some o) (v : Value) (w' : World) (hw : Region.wanted o (yielded ops a.tmps) = true) (hv : (execOp a.eval o).run P w = .ok (.value v) w') (h : K (a.put o.dst v) w') : wpOp P ops Q i K a w := by
  unfold wpOp
  simp only [ho, hw, if_true, Oper.wp, hv, Oper.upon]
  exact .inl h

/-- A call. -/
theorem i_call (ho : ops[i]? = some o) (v : Value) (f : FuncId) (args : Array Value) (R : World → Prop) (hw : Region.wanted o (yielded ops a.tmps) = true) (hv : (execOp a.eval o).run P w = .ok (.enter f args) w)
    (hc : Calls P f args w fun e w' => e = .returned v ∧ R w') (h : ∀ w', R w' → K (a.put o.dst v) w') : wpOp P ops Q i K a w := by
  unfold wpOp
  simp only [ho, hw, if_true, Oper.wp, hv, Oper.upon]
  exact .inl (hc.mono fun e w' ⟨he, hr⟩ => by subst he; exact h w' hr)

/-- One whose step is known by itself. -/
theorem i_wp (ho : ops[i]? = some o) (hw : Region.wanted o (yielded ops a.tmps) = true) (h : o.wp P a w K Q) : wpOp P ops Q i K a w := by
  unfold wpOp
  simp only [ho, hw, if_true]
  exact .inl h
end
end Go.Proofs.Ytiophmmcennjnaa
