/- slices.Clone at the four lists of a state. -/
import Derived.Test.YtojijeaofkndpaaEqs
namespace Go.Proofs.Ytojijeaofkndpaa
open Go.RowKit
set_option linter.unusedSimpArgs false
set_option linter.unusedVariables false

set_option maxRecDepth 100000 in
set_option maxHeartbeats 4000000 in
theorem clone_vr {w : World} {B : Nat} {v : Value} {l : List Vr} (h : Own w B 107 3 vrC v l) (hl : l.length ≤ 1000) :
    Calls Try.prog 35 #[v] w fun e w' => ∃ v', e = .returned v' ∧ Own w' w.heap.size 107 3 vrC v' l ∧ Below w.heap.size w w' := by
  have nq : ∀ (W : World) (a : Option Addr) (n c n' c' : Nat), (binOp .eql 95 (.slice a n c) (.slice none n' c')).run Try.prog W = .ok (.bool a.isNone) W := fun W a n c n' c' => Lib.run_eql_slice_nil W _ _ a n c n' c' Try.underlying95
  rcases h.cases with ⟨rfl, rfl⟩ | ⟨g, cap, rfl, h1, h2, h3, h4⟩
  · go_enter Try.func35, Try.ntmps35
    go_wp2_with fail
    go_ret
    exact ⟨_, rfl, Own.nil _ _ _ _ _, Below.refl _ _⟩
  · obtain ⟨w1, hw1⟩ : ∃ w1, w1 = w.alloc (.cells #[] 107) := ⟨_, rfl⟩
    obtain ⟨G, hG⟩ : ∃ G, G = w.heap.size := ⟨_, rfl⟩
    have B1 := Lib.hid (show Below w.heap.size w w1 by rw [hw1]; exact (Below.refl _ _).alloc (Nat.le_refl _) _)
    have O1 := Lib.hid (show Own w1 w.heap.size 107 3 vrC (.slice (some ⟨G, 0, none⟩) 0 0) [] by rw [hw1, hG]; exact Own.made w (Nat.le_refl _) vrC)
    have S1 := Lib.hid (show Src w1 vrC (.slice (some ⟨g, 0, none⟩) l.length cap) l from (h.next B1.out).src)
    obtain ⟨v', w2, hrun0, o2, g2, -⟩ := vrT.app O1.out S1.out (by simp; omega) B1.out.size 95
    have R2 := Lib.hid hrun0
    have O2 := Lib.hid (show Own w2 w.heap.size 107 3 vrC v' l by simpa using o2)
    have B2 := Lib.hid (grownBelow B1.out g2 (fun k e => (O1.out.lt k e).1) B1.out.size)
    have HW := Lib.hid hw1
    have HG := Lib.hid hG
    clear hrun0 o2 g2 hw1 hG h h1 h2 h3 h4
    go_enter Try.func35, Try.ntmps35
    have hrun := R2.out
    rw [HW.out, HG.out] at hrun
    go_wp2_with (at_builtin; refine wpList_append_lst rfl _ _ 95 rfl v' w2 hrun ?_)
    go_ret
    exact ⟨v', rfl, O2.out, B2.out⟩

set_option maxRecDepth 100000 in
set_option maxHeartbeats 4000000 in
theorem clone_sr {w : World} {B : Nat} {v : Value} {l : List Sr} (h : Own w B 114 8 srC v l) (hl : l.length ≤ 1000) :
    Calls Try.prog 36 #[v] w fun e w' => ∃ v', e = .returned v' ∧ Own w' w.heap.size 114 8 srC v' l ∧ Below w.heap.size w w' := by
  have nq : ∀ (W : World) (a : Option Addr) (n c n' c' : Nat), (binOp .eql 96 (.slice a n c) (.slice none n' c')).run Try.prog W = .ok (.bool a.isNone) W := fun W a n c n' c' => Lib.run_eql_slice_nil W _ _ a n c n' c' Try.underlying96
  rcases h.cases with ⟨rfl, rfl⟩ | ⟨g, cap, rfl, h1, h2, h3, h4⟩
  · go_enter Try.func36, Try.ntmps36
    go_wp2_with fail
    go_ret
    exact ⟨_, rfl, Own.nil _ _ _ _ _, Below.refl _ _⟩
  · obtain ⟨w1, hw1⟩ : ∃ w1, w1 = w.alloc (.cells #[] 114) := ⟨_, rfl⟩
    obtain ⟨G, hG⟩ : ∃ G, G = w.heap.size := ⟨_, rfl⟩
    have B1 := Lib.hid (show Below w.heap.size w w1 by rw [hw1]; exact (Below.refl _ _).alloc (Nat.le_refl _) _)
    have O1 := Lib.hid (show Own w1 w.heap.size 114 8 srC (.slice (some ⟨G, 0, none⟩) 0 0) [] by rw [hw1, hG]; exact Own.made w (Nat.le_refl _) srC)
    have S1 := Lib.hid (show Src w1 srC (.slice (some ⟨g, 0, none⟩) l.length cap) l from (h.next B1.out).src)
    obtain ⟨v', w2, hrun0, o2, g2, -⟩ := srT.app O1.out S1.out (by simp; omega) B1.out.size 96
    have R2 := Lib.hid hrun0
    have O2 := Lib.hid (show Own w2 w.heap.size 114 8 srC v' l by simpa using o2)
    have B2 := Lib.hid (grownBelow B1.out g2 (fun k e => (O1.out.lt k e).1) B1.out.size)
    have HW := Lib.hid hw1
    have HG := Lib.hid hG
    clear hrun0 o2 g2 hw1 hG h h1 h2 h3 h4
    go_enter Try.func36, Try.ntmps36
    have hrun := R2.out
    rw [HW.out, HG.out] at hrun
    go_wp2_with (at_builtin; refine wpList_append_lst rfl _ _ 96 rfl v' w2 hrun ?_)
    go_ret
    exact ⟨v', rfl, O2.out, B2.out⟩

end Go.Proofs.Ytojijeaofkndpaa
