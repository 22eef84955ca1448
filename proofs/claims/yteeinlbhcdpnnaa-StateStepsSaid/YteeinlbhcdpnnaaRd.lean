/- Loads from the middle of rows; addresses compared. -/
import Derived.Test.YteeinlbhcdpnnaaBks
import Derived.Test.YteeinlbhcdpnnaaEq
namespace Go.Proofs.Yteeinlbhcdpnnaa
open Go.RowKit
set_option linter.unusedVariables false

theorem run_loadRange {P : Program} {o : Oper} {a : Act} {w : World} (ty : TypeId) (x : Operand) (ho : o.op = .load ty x) (g j : Nat) (hx : a.eval x = .pointer (some ⟨g, j, none⟩)) (arr : Array Value) (d : TypeDesc) (hr : w.rangeAt g j arr.toList)
    (hu : P.underlying ty = some d) (hd : d.isRow = true) (hi : (P.info? ty).map (·.size) = some arr.size) : (execOp a.eval o).run P w = .ok (.value (.agg arr)) w := by
  unfold execOp
  simp only [ho, hx, Instr.loadAt, Instr.sureAddr, Sem.run_bind, Sem.run_pure, Result.andThen_ok, run_loadVar_mid w g j ty arr.toList d hr hu hd (by simpa using hi), Array.toArray_toList]
theorem eqMac_num {a : Nat} {m : Nat → Nat} (ha : a < 281474976710656) (hm : Six m) : eqMac (byteF a) m = decide (a = numF m 6) := by
  rw [Bool.eq_iff_iff, decide_eq_true_eq]
  unfold eqMac
  simp only [Bool.and_eq_true, decide_eq_true_eq]
  obtain ⟨b0, b1, b2, b3, b4, b5⟩ := byteF_lit a
  obtain ⟨h0, h1, h2, h3, h4, h5⟩ := hm
  rw [b0, b1, b2, b3, b4, b5, numF_lit]
  constructor
  · rintro ⟨⟨⟨⟨⟨c0, c1⟩, c2⟩, c3⟩, c4⟩, c5⟩
    omega
  · intro h
    refine ⟨⟨⟨⟨⟨?_, ?_⟩, ?_⟩, ?_⟩, ?_⟩, ?_⟩ <;> omega
theorem next_ne {α : Type} {key : α → Nat} {l : List α} {k v : Nat} {x : α} (hx : l[k]? = some x) (h : key x ≠ v) (hb : ∀ j y, j < k → l[j]? = some y → key y ≠ v) : ∀ j y, j < k + 1 → l[j]? = some y → key y ≠ v := by
  intro j y hj hy
  by_cases c : j = k
  · subst c
    rw [hx] at hy
    cases hy
    exact h
  · exact hb j y (by omega) hy
end Go.Proofs.Yteeinlbhcdpnnaa
