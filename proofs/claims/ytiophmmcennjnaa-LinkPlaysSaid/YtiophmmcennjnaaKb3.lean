/- Regions that draw their order and end in one operation that waits for all others: those read or call; no program in sight. -/
import Derived.Test.YtiophmmcennjnaaKb2
import Derived.Test.YtiophmmcennjnaaLastOp
namespace Go.Proofs.Ytiophmmcennjnaa
open Go.RowKit
set_option linter.unusedVariables false

theorem wp_region_last2 {P : Program} {ops : Array Oper} {Q : Exit → Act → World → Prop} {id : Nat} {a : Act} {w : World} (n : Nat) (I : (Nat → Bool) → Act → World → Prop) (hm : P.follows .mixedOrders = true) (hd : dag ops = true) (hc : covers ops n = true) (h0 : I (fun _ => false) a w.drew)
    (hs : ∀ i, i < n → ∀ L a w, I L a w → L i = false → (∀ j ∈ afters ops i, L j = true) → wpOp P ops Q i (fun a' w' => I (upd L i) a' w') a w)
    (hl : ∀ L a w, I L a w → (∀ i, i < n → L i = true) → wpOp P ops Q n (fun a' w' => Q .normal a' w') a w) : (Code.region id ops true).wp P Q a w := by
  unfold covers at hc
  rw [Bool.and_eq_true, beq_iff_eq, List.all_eq_true] at hc
  obtain ⟨hsz, hcov⟩ := hc
  have hall : ∀ L : Nat → Bool, (∀ i, L i = true → ∀ j ∈ afters ops i, L j = true) → (∀ j ∈ afters ops n, L j = true) → ∀ i, i < n → L i = true := fun L hdc hn i hi => by
    have := hcov i (List.mem_range.2 hi)
    exact reach_true hdc n _ hn i (by simpa using this)
  have hup : ∀ (L : Nat → Bool) (i : Nat), (∀ i, L i = true → ∀ j ∈ afters ops i, L j = true) → (∀ j ∈ afters ops i, L j = true) → ∀ k, upd L i k = true → ∀ j ∈ afters ops k, upd L i j = true := fun L i hdc ha k hk j hj => by
    have base : L j = true := by
      by_cases c : k = i
      · exact ha j (c ▸ hj)
      · unfold upd at hk
        rw [if_neg c] at hk
        exact hdc k hk j hj
    unfold upd
    split
    · rfl
    · exact base
  refine wp_region_inv (I := fun L a w' => (∀ i, L i = true → ∀ j ∈ afters ops i, L j = true) ∧ (L n = false → I L a w') ∧ (L n = true → Q .normal a w')) hm hd
    ⟨fun i h => Bool.noConfusion h, fun _ => h0, fun h => Bool.noConfusion h⟩ ?_ ?_
  · rintro i hi L a w' ⟨hdc, hA, hB⟩ hLi haft
    have hLn : L n = false ∨ L n = true := by cases L n <;> simp
    by_cases c : i = n
    · subst c
      refine wpOp_mono (fun a' w' hq => ?_) (hl L a w' (hA hLi) (hall L hdc haft))
      refine ⟨hup L i hdc haft, fun q => ?_, fun _ => hq⟩
      unfold upd at q
      rw [if_pos rfl] at q
      cases q
    · have hin : i < n := by omega
      rcases hLn with q | q
      · refine wpOp_mono (fun a' w' hq => ?_) (hs i hin L a w' (hA q) hLi haft)
        refine ⟨hup L i hdc haft, fun _ => hq, fun r => ?_⟩
        unfold upd at r
        rw [if_neg (fun e => c e.symm), q] at r
        cases r
      · have := hall L hdc (hdc n q) i hin
        rw [hLi] at this
        cases this
  · rintro L a w' ⟨hdc, hA, hB⟩ h
    exact hB (h n (by omega))
/-- .. where what has come up came up behind all for which it waits. -/
theorem wp_region_inv_dc {P : Program} {ops : Array Oper} {Q : Exit → Act → World → Prop} {id : Nat} {a : Act} {w : World} (I : (Nat → Bool) → Act → World → Prop) (hm : P.follows .mixedOrders = true) (hd : dag ops = true) (h0 : I (fun _ => false) a w.drew)
    (hstep : ∀ i, i < ops.size → ∀ L a w, I L a w → L i = false → (∀ j ∈ afters ops i, L j = true) → (∀ i, L i = true → ∀ j ∈ afters ops i, L j = true) → wpOp P ops Q i (fun a' w' => I (upd L i) a' w') a w)
    (hend : ∀ L a w, I L a w → (∀ i, i < ops.size → L i = true) → Q .normal a w) : (Code.region id ops true).wp P Q a w := by
  refine wp_region_inv (I := fun L a w => (∀ i, L i = true → ∀ j ∈ afters ops i, L j = true) ∧ I L a w) hm hd ⟨fun i h => Bool.noConfusion h, h0⟩ ?_ (fun L a w h => hend L a w h.2)
  intro i hi L a w ⟨hdc, hI⟩ hL haft
  refine wpOp_mono (fun a' w' hq => ⟨fun k hk j hj => ?_, hq⟩) (hstep i hi L a w hI hL haft hdc)
  have base : L j = true := by
    by_cases c : k = i
    · exact haft j (c ▸ hj)
    · unfold upd at hk
      rw [if_neg c] at hk
      exact hdc k hk j hj
  unfold upd
  split
  · rfl
  · exact base
end Go.Proofs.Ytiophmmcennjnaa
