/- slices.Clone at the four lists of a state. -/
import Derived.Test.YtpbdamnlfpfclaaEqs
namespace Go.Proofs.Ytpbdamnlfpfclaa
open Go.RowKit
set_option linter.unusedSimpArgs false
set_option linter.unusedVariables false

set_option maxRecDepth 100000 in
set_option maxHeartbeats 4000000 in
theorem clone_po {w : World} {B : Nat} {v : Value} {l : List Po} (h : Own w B 50 21 poC v l) (hl : l.length ≤ 1000) :
    Calls Try.prog 21 #[v] w fun e w' => ∃ v', e = .returned v' ∧ Own w' w.heap.size 50 21 poC v' l ∧ Below w.heap.size w w' := by
  have nq : ∀ (W : World) (a : Option Addr) (n c n' c' : Nat), (binOp .eql 35 (.slice a n c) (.slice none n' c')).run Try.prog W = .ok (.bool a.isNone) W := fun W a n c n' c' => Lib.run_eql_slice_nil W _ _ a n c n' c' Try.underlying35
  rcases h.cases with ⟨rfl, rfl⟩ | ⟨g, cap, rfl, h1, h2, h3, h4⟩
  · go_enter Try.func21, Try.ntmps21
    go_wp2_with fail
    go_ret
    exact ⟨_, rfl, Own.nil _ _ _ _ _, Below.refl _ _⟩
  · obtain ⟨w1, hw1⟩ : ∃ w1, w1 = w.alloc (.cells #[] 50) := ⟨_, rfl⟩
    obtain ⟨G, hG⟩ : ∃ G, G = w.heap.size := ⟨_, rfl⟩
    have B1 := Lib.hid (show Below w.heap.size w w1 by rw [hw1]; exact (Below.refl _ _).alloc (Nat.le_refl _) _)
    have O1 := Lib.hid (show Own w1 w.heap.size 50 21 poC (.slice (some ⟨G, 0, none⟩) 0 0) [] by rw [hw1, hG]; exact Own.made w (Nat.le_refl _) poC)
    have S1 := Lib.hid (show Src w1 poC (.slice (some ⟨g, 0, none⟩) l.length cap) l from (h.next B1.out).src)
    obtain ⟨v', w2, hrun0, o2, g2, -⟩ := poT.app O1.out S1.out (by simp; omega) B1.out.size 35
    have R2 := Lib.hid hrun0
    have O2 := Lib.hid (show Own w2 w.heap.size 50 21 poC v' l by simpa using o2)
    have B2 := Lib.hid (grownBelow B1.out g2 (fun k e => (O1.out.lt k e).1) B1.out.size)
    have HW := Lib.hid hw1
    have HG := Lib.hid hG
    clear hrun0 o2 g2 hw1 hG h h1 h2 h3 h4
    go_enter Try.func21, Try.ntmps21
    have hrun := R2.out
    rw [HW.out, HG.out] at hrun
    go_wp2_with (at_builtin; refine wpList_append_lst rfl _ _ 35 rfl v' w2 hrun ?_)
    go_ret
    exact ⟨v', rfl, O2.out, B2.out⟩

set_option maxRecDepth 100000 in
set_option maxHeartbeats 4000000 in
theorem clone_vr {w : World} {B : Nat} {v : Value} {l : List Vr} (h : Own w B 54 3 vrC v l) (hl : l.length ≤ 1000) :
    Calls Try.prog 14 #[v] w fun e w' => ∃ v', e = .returned v' ∧ Own w' w.heap.size 54 3 vrC v' l ∧ Below w.heap.size w w' := by
  have nq : ∀ (W : World) (a : Option Addr) (n c n' c' : Nat), (binOp .eql 36 (.slice a n c) (.slice none n' c')).run Try.prog W = .ok (.bool a.isNone) W := fun W a n c n' c' => Lib.run_eql_slice_nil W _ _ a n c n' c' Try.underlying36
  rcases h.cases with ⟨rfl, rfl⟩ | ⟨g, cap, rfl, h1, h2, h3, h4⟩
  · go_enter Try.func14, Try.ntmps14
    go_wp2_with fail
    go_ret
    exact ⟨_, rfl, Own.nil _ _ _ _ _, Below.refl _ _⟩
  · obtain ⟨w1, hw1⟩ : ∃ w1, w1 = w.alloc (.cells #[] 54) := ⟨_, rfl⟩
    obtain ⟨G, hG⟩ : ∃ G, G = w.heap.size := ⟨_, rfl⟩
    have B1 := Lib.hid (show Below w.heap.size w w1 by rw [hw1]; exact (Below.refl _ _).alloc (Nat.le_refl _) _)
    have O1 := Lib.hid (show Own w1 w.heap.size 54 3 vrC (.slice (some ⟨G, 0, none⟩) 0 0) [] by rw [hw1, hG]; exact Own.made w (Nat.le_refl _) vrC)
    have S1 := Lib.hid (show Src w1 vrC (.slice (some ⟨g, 0, none⟩) l.length cap) l from (h.next B1.out).src)
    obtain ⟨v', w2, hrun0, o2, g2, -⟩ := vrT.app O1.out S1.out (by simp; omega) B1.out.size 36
    have R2 := Lib.hid hrun0
    have O2 := Lib.hid (show Own w2 w.heap.size 54 3 vrC v' l by simpa using o2)
    have B2 := Lib.hid (grownBelow B1.out g2 (fun k e => (O1.out.lt k e).1) B1.out.size)
    have HW := Lib.hid hw1
    have HG := Lib.hid hG
    clear hrun0 o2 g2 hw1 hG h h1 h2 h3 h4
    go_enter Try.func14, Try.ntmps14
    have hrun := R2.out
    rw [HW.out, HG.out] at hrun
    go_wp2_with (at_builtin; refine wpList_append_lst rfl _ _ 36 rfl v' w2 hrun ?_)
    go_ret
    exact ⟨v', rfl, O2.out, B2.out⟩

set_option maxRecDepth 100000 in
set_option maxHeartbeats 4000000 in
theorem clone_sr {w : World} {B : Nat} {v : Value} {l : List Sr} (h : Own w B 60 8 srC v l) (hl : l.length ≤ 1000) :
    Calls Try.prog 15 #[v] w fun e w' => ∃ v', e = .returned v' ∧ Own w' w.heap.size 60 8 srC v' l ∧ Below w.heap.size w w' := by
  have nq : ∀ (W : World) (a : Option Addr) (n c n' c' : Nat), (binOp .eql 37 (.slice a n c) (.slice none n' c')).run Try.prog W = .ok (.bool a.isNone) W := fun W a n c n' c' => Lib.run_eql_slice_nil W _ _ a n c n' c' Try.underlying37
  rcases h.cases with ⟨rfl, rfl⟩ | ⟨g, cap, rfl, h1, h2, h3, h4⟩
  · go_enter Try.func15, Try.ntmps15
    go_wp2_with fail
    go_ret
    exact ⟨_, rfl, Own.nil _ _ _ _ _, Below.refl _ _⟩
  · obtain ⟨w1, hw1⟩ : ∃ w1, w1 = w.alloc (.cells #[] 60) := ⟨_, rfl⟩
    obtain ⟨G, hG⟩ : ∃ G, G = w.heap.size := ⟨_, rfl⟩
    have B1 := Lib.hid (show Below w.heap.size w w1 by rw [hw1]; exact (Below.refl _ _).alloc (Nat.le_refl _) _)
    have O1 := Lib.hid (show Own w1 w.heap.size 60 8 srC (.slice (some ⟨G, 0, none⟩) 0 0) [] by rw [hw1, hG]; exact Own.made w (Nat.le_refl _) srC)
    have S1 := Lib.hid (show Src w1 srC (.slice (some ⟨g, 0, none⟩) l.length cap) l from (h.next B1.out).src)
    obtain ⟨v', w2, hrun0, o2, g2, -⟩ := srT.app O1.out S1.out (by simp; omega) B1.out.size 37
    have R2 := Lib.hid hrun0
    have O2 := Lib.hid (show Own w2 w.heap.size 60 8 srC v' l by simpa using o2)
    have B2 := Lib.hid (grownBelow B1.out g2 (fun k e => (O1.out.lt k e).1) B1.out.size)
    have HW := Lib.hid hw1
    have HG := Lib.hid hG
    clear hrun0 o2 g2 hw1 hG h h1 h2 h3 h4
    go_enter Try.func15, Try.ntmps15
    have hrun := R2.out
    rw [HW.out, HG.out] at hrun
    go_wp2_with (at_builtin; refine wpList_append_lst rfl _ _ 37 rfl v' w2 hrun ?_)
    go_ret
    exact ⟨v', rfl, O2.out, B2.out⟩

set_option maxRecDepth 100000 in
set_option maxHeartbeats 4000000 in
theorem clone_fr {w : World} {B : Nat} {v : Value} {l : List Fr} (h : Own w B 64 9 frC v l) (hl : l.length ≤ 1000) :
    Calls Try.prog 22 #[v] w fun e w' => ∃ v', e = .returned v' ∧ Own w' w.heap.size 64 9 frC v' l ∧ Below w.heap.size w w' := by
  have nq : ∀ (W : World) (a : Option Addr) (n c n' c' : Nat), (binOp .eql 38 (.slice a n c) (.slice none n' c')).run Try.prog W = .ok (.bool a.isNone) W := fun W a n c n' c' => Lib.run_eql_slice_nil W _ _ a n c n' c' Try.underlying38
  rcases h.cases with ⟨rfl, rfl⟩ | ⟨g, cap, rfl, h1, h2, h3, h4⟩
  · go_enter Try.func22, Try.ntmps22
    go_wp2_with fail
    go_ret
    exact ⟨_, rfl, Own.nil _ _ _ _ _, Below.refl _ _⟩
  · obtain ⟨w1, hw1⟩ : ∃ w1, w1 = w.alloc (.cells #[] 64) := ⟨_, rfl⟩
    obtain ⟨G, hG⟩ : ∃ G, G = w.heap.size := ⟨_, rfl⟩
    have B1 := Lib.hid (show Below w.heap.size w w1 by rw [hw1]; exact (Below.refl _ _).alloc (Nat.le_refl _) _)
    have O1 := Lib.hid (show Own w1 w.heap.size 64 9 frC (.slice (some ⟨G, 0, none⟩) 0 0) [] by rw [hw1, hG]; exact Own.made w (Nat.le_refl _) frC)
    have S1 := Lib.hid (show Src w1 frC (.slice (some ⟨g, 0, none⟩) l.length cap) l from (h.next B1.out).src)
    obtain ⟨v', w2, hrun0, o2, g2, -⟩ := frT.app O1.out S1.out (by simp; omega) B1.out.size 38
    have R2 := Lib.hid hrun0
    have O2 := Lib.hid (show Own w2 w.heap.size 64 9 frC v' l by simpa using o2)
    have B2 := Lib.hid (grownBelow B1.out g2 (fun k e => (O1.out.lt k e).1) B1.out.size)
    have HW := Lib.hid hw1
    have HG := Lib.hid hG
    clear hrun0 o2 g2 hw1 hG h h1 h2 h3 h4
    go_enter Try.func22, Try.ntmps22
    have hrun := R2.out
    rw [HW.out, HG.out] at hrun
    go_wp2_with (at_builtin; refine wpList_append_lst rfl _ _ 38 rfl v' w2 hrun ?_)
    go_ret
    exact ⟨v', rfl, O2.out, B2.out⟩
end Go.Proofs.Ytpbdamnlfpfclaa
