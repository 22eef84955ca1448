/- Regions that draw their order and end in one operation that waits for all others: those only read; no program in sight. -/
import Derived.Test.YtiophmmcennjnaaInv
import Derived.Below
namespace Go.Proofs.Ytiophmmcennjnaa
open Go.RowKit
set_option linter.unusedVariables false

/-- For which ones these wait, directly or not, in so many steps. -/
def reach (ops : Array Oper) : Nat → List Nat → List Nat
  | 0, S => S
  | k + 1, S => reach ops k (S ++ S.flatMap (afters ops))
/-- Operation n waits for all ahead of it. -/
def covers (ops : Array Oper) (n : Nat) : Bool := ops.size == n + 1 && (List.range n).all fun i => (reach ops n (afters ops n)).contains i

theorem reach_true {ops : Array Oper} {L : Nat → Bool} (hd : ∀ i, L i = true → ∀ j ∈ afters ops i, L j = true) : ∀ (k : Nat) (S : List Nat), (∀ j ∈ S, L j = true) → ∀ j ∈ reach ops k S, L j = true
  | 0, S, h => h
  | k + 1, S, h => by
    unfold reach
    refine reach_true hd k _ (fun j hj => ?_)
    rcases List.mem_append.1 hj with hj | hj
    · exact h j hj
    · obtain ⟨i, hi, hji⟩ := List.mem_flatMap.1 hj
      exact hd i (h i hi) j hji

section
variable {P : Program} {ops : Array Oper} {Q : Exit → Act → World → Prop}
theorem wp_region_last {id : Nat} {a : Act} {w : World} (n : Nat) (I : (Nat → Bool) → Act → Prop) (hm : P.follows .mixedOrders = true) (hd : dag ops = true) (hc : covers ops n = true) (h0 : I (fun _ => false) a)
    (h : ∀ w5, Below w.heap.size w w5 → (∀ i, i < n → ∀ L a, I L a → L i = false → (∀ j ∈ afters ops i, L j = true) → wpOp P ops Q i (fun a' w' => I (upd L i) a' ∧ w' = w5) a w5) ∧
      (∀ L a, I L a → (∀ i, i < n → L i = true) → wpOp P ops Q n (fun a' w' => Q .normal a' w') a w5)) : (Code.region id ops true).wp P Q a w := by
  unfold covers at hc
  rw [Bool.and_eq_true, beq_iff_eq, List.all_eq_true] at hc
  obtain ⟨hsz, hcov⟩ := hc
  obtain ⟨hs, hl⟩ := h w.drew (Below.refl _ _).drew
  have hall : ∀ L : Nat → Bool, (∀ i, L i = true → ∀ j ∈ afters ops i, L j = true) → (∀ j ∈ afters ops n, L j = true) → ∀ i, i < n → L i = true := fun L hdc hn i hi => by
    have := hcov i (List.mem_range.2 hi)
    exact reach_true hdc n _ hn i (by simpa using this)
  have hup : ∀ (L : Nat → Bool) (i : Nat), (∀ i, L i = true → ∀ j ∈ afters ops i, L j = true) → (∀ j ∈ afters ops i, L j = true) → ∀ k, upd L i k = true → ∀ j ∈ afters ops k, upd L i j = true := fun L i hdc ha k hk j hj => by
    have base : L j = true := by
      by_cases c : k = i
      · exact ha j (c ▸ hj)
      · unfold upd at hk
        rw [if_neg c] at hk
        exact hdc k hk j hj
    unfold upd
    split
    · rfl
    · exact base
  refine wp_region_inv (I := fun L a w' => (∀ i, L i = true → ∀ j ∈ afters ops i, L j = true) ∧ (L n = false → I L a ∧ w' = w.drew) ∧ (L n = true → Q .normal a w')) hm hd
    ⟨fun i h => Bool.noConfusion h, fun _ => ⟨h0, rfl⟩, fun h => Bool.noConfusion h⟩ ?_ ?_
  · rintro i hi L a w' ⟨hdc, hA, hB⟩ hLi haft
    have hLn : L n = false ∨ L n = true := by cases L n <;> simp
    by_cases c : i = n
    · subst c
      obtain ⟨hI, rfl⟩ := hA hLi
      refine wpOp_mono (fun a' w' hq => ?_) (hl L a hI (hall L hdc haft))
      refine ⟨hup L i hdc haft, fun q => ?_, fun _ => hq⟩
      unfold upd at q
      rw [if_pos rfl] at q
      cases q
    · have hin : i < n := by omega
      rcases hLn with q | q
      · obtain ⟨hI, rfl⟩ := hA q
        refine wpOp_mono (fun a' w' hq => ?_) (hs i hin L a hI hLi haft)
        refine ⟨hup L i hdc haft, fun _ => ⟨hq.1, hq.2⟩, fun r => ?_⟩
        unfold upd at r
        rw [if_neg (fun e => c e.symm), q] at r
        cases r
      · have := hall L hdc (hdc n q) i hin
        rw [hLi] at this
        cases this
  · rintro L a w' ⟨hdc, hA, hB⟩ h
    exact hB (h n (by omega))
/-- One that yields nothing. -/
theorem i_skip {i : Nat} {o : Oper} {a : Act} {w : World} {K : Act → World → Prop} (ho : ops[i]? = some o) (w' : World) (hw : Region.wanted o (yielded ops a.tmps) = true) (hv : (execOp a.eval o).run P w = .ok .skip w') (h : K (a.put o.dst undef) w') : wpOp P ops Q i K a w := by
  unfold wpOp
  simp only [ho, hw, if_true, Oper.wp, hv, Oper.upon]
  exact .inl h
end
end Go.Proofs.Ytiophmmcennjnaa
