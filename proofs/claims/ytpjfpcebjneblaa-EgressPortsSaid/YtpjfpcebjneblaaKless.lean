/- Which key stands ahead. -/
import Derived.Test.YtpjfpcebjneblaaKx
import Derived.Test.YtpjfpcebjneblaaAddr
import Derived.Test.YtpjfpcebjneblaaTell
import Derived.Test.YtpjfpcebjneblaaMac
import Derived.Test.YtpjfpcebjneblaaQuietly
import Derived.Deep.DeepCutAuto
namespace Go.Proofs.Ytpjfpcebjneblaa
open Go.RowKit
attribute [local irreducible] wpQuiet
set_option linter.unusedSimpArgs false
set_option linter.unusedVariables false

theorem ky_mac (v a : Nat) (j : Nat) (u : Value) (h : (macA (byteF a))[j]? = some u) : (kyA v a)[1 + j]? = some u := by
  match j, h with
  | 0, h => exact h
  | 1, h => exact h
  | 2, h => exact h
  | 3, h => exact h
  | 4, h => exact h
  | 5, h => exact h
  | j + 6, h => simp at h

set_option maxRecDepth 100000 in
set_option maxHeartbeats 8000000 in
theorem key_less (v a u b : Nat) (ha : a < 281474976710656) (hb : b < 281474976710656) (w : World) :
    Calls Try.prog 54 #[kyV v a, kyV u b] w fun e w' => e = .returned (.bool (decide (keyN v a < keyN u b))) ∧ Below w.heap.size w w' := by
  obtain ⟨W1, hW1⟩ : ∃ W1, W1 = w.alloc (.cells (kyA v a) 61) := ⟨_, rfl⟩
  obtain ⟨W2, hW2⟩ : ∃ W2, W2 = W1.alloc (.cells (kyA u b) 61) := ⟨_, rfl⟩
  obtain ⟨B, hB⟩ : ∃ B, B = w.heap.size := ⟨_, rfl⟩
  have hB1 : W1.heap.size = B + 1 := by rw [hW1, hB]; simp
  have K0 := Lib.hid (show Kn w [(B + 1, kyA u b, 61), (B, kyA v a, 61)] W2 by
    have q := ((Kn.nil w).alloc (kyA v a) 61).alloc (kyA u b) 61
    rw [← hW1, ← hW2, hB1, ← hB] at q
    exact q)
  have HW := Lib.hid (show (w.alloc (.cells (kyA v a) 61)).alloc (.cells (kyA u b) 61) = W2 by rw [hW2, hW1])
  have HB := Lib.hid hB
  have c1 := (K0.out.at 0 rfl).cell 0
  have c2 := (K0.out.at 1 rfl).cell 0
  simp only [List.getElem?_toArray, List.getElem?_cons_zero] at c1 c2
  have BL := Lib.hid K0.out.below
  have HA := Lib.hid ha
  have HBB := Lib.hid hb
  clear hW1 hW2 hB1 hB ha hb
  by_cases h : v = u
  · have e1 : ((v : Int) != (u : Int)) = false := by simp [h]
    have RES := Lib.hid (show decide (a < b) = decide (keyN v a < keyN u b) by
      rw [decide_eq_decide, keyN_lt HA.out HBB.out]
      omega)
    clear h
    go_enter Try.func54, Try.ntmps54
    go_upto_region 1 with fail
    rw [HW.out, ← HB.out]
    go_upto_region 3 with fail
    have ei : decide (a < b) = decide (a < b) := rfl
    obtain ⟨r, hr⟩ : ∃ r : Bool, r = decide (a < b) := ⟨_, rfl⟩
    have HR := Lib.hid hr
    have hi := Lib.hid hr.symm
    clear hr ei
    have K1 := Lib.hid (show Kn W2 [(B + 1, kyA u b, 61), (B, kyA v a, 61)] W2 from ⟨K0.out.all, Below.refl _ _⟩)
    have SZ := Lib.hid size25
    refine wp_region_quiet (C := Kn W2 [(B + 1, kyA u b, 61), (B, kyA v a, 61)]) (by kernel_rfl) (by kernel_rfl) K1.out.drew ?_
    have hlt := Lib.hid (show decide (numF (byteF a) 6 < numF (byteF b) 6) = r by rw [numF_byteF, numF_byteF, Nat.mod_eq_of_lt HA.out, Nat.mod_eq_of_lt HBB.out]; exact hi.out)
    (refine q_val (v := ?_) (by rfl) ?_ ?_; rotate_left; (· (intro w hC; go_simp; try with_reducible rfl)); (try simp only [Act.put, List.getElem_toArray, List.getElem_cons_succ, List.getElem_cons_zero, List.setIfInBounds_toArray, List.set_cons_zero, List.set_cons_succ]))
    (refine q_val (v := .agg (macA (byteF a))) (by rfl) (fun w hC => run_loadRange 44 _ rfl B 1 rfl (macA (byteF a)) _ (fun j x hx => by rw [(hC.at 1 rfl).cell]; exact ky_mac v a j x (by simpa using hx)) Try.underlying44 rfl SZ.out) ?_; (try simp only [Act.put, List.getElem_toArray, List.getElem_cons_succ, List.getElem_cons_zero, List.setIfInBounds_toArray, List.set_cons_zero, List.set_cons_succ]))
    (refine q_call (v := .int .u64 (numF (byteF a) 6 : Nat)) 45 #[mac (byteF a)] (by rfl) (fun w hC => by go_simp) (fun w hC => calls_in (int_any (byteF a) _ (byteF_six a)) (fun w' hb => hC.next hb)) ?_; (try simp only [Act.put, List.getElem_toArray, List.getElem_cons_succ, List.getElem_cons_zero, List.setIfInBounds_toArray, List.set_cons_zero, List.set_cons_succ]))
    (refine q_val (v := ?_) (by rfl) ?_ ?_; rotate_left; (· (intro w hC; go_simp; try with_reducible rfl)); (try simp only [Act.put, List.getElem_toArray, List.getElem_cons_succ, List.getElem_cons_zero, List.setIfInBounds_toArray, List.set_cons_zero, List.set_cons_succ]))
    (refine q_val (v := .agg (macA (byteF b))) (by rfl) (fun w hC => run_loadRange 44 _ rfl (B + 1) 1 rfl (macA (byteF b)) _ (fun j x hx => by rw [(hC.at 0 rfl).cell]; exact ky_mac u b j x (by simpa using hx)) Try.underlying44 rfl SZ.out) ?_; (try simp only [Act.put, List.getElem_toArray, List.getElem_cons_succ, List.getElem_cons_zero, List.setIfInBounds_toArray, List.set_cons_zero, List.set_cons_succ]))
    (refine q_call (v := .int .u64 (numF (byteF b) 6 : Nat)) 45 #[mac (byteF b)] (by rfl) (fun w hC => by go_simp) (fun w hC => calls_in (int_any (byteF b) _ (byteF_six b)) (fun w' hb => hC.next hb)) ?_; (try simp only [Act.put, List.getElem_toArray, List.getElem_cons_succ, List.getElem_cons_zero, List.setIfInBounds_toArray, List.set_cons_zero, List.set_cons_succ]))
    (refine q_val (v := ?_) (by rfl) ?_ ?_; rotate_left; (· (intro w hC; have q := hlt.out; go_simp; try with_reducible rfl)); (try simp only [Act.put, List.getElem_toArray, List.getElem_cons_succ, List.getElem_cons_zero, List.setIfInBounds_toArray, List.set_cons_zero, List.set_cons_succ]))
    (refine q_val (v := ?_) (by rfl) ?_ ?_; rotate_left; (· (intro w hC; go_simp; try with_reducible rfl)); (try simp only [Act.put, List.getElem_toArray, List.getElem_cons_succ, List.getElem_cons_zero, List.setIfInBounds_toArray, List.set_cons_zero, List.set_cons_succ]))
    refine wpQuiet_nil ?_
    intro w5 hC5
    have K5 := Lib.hid hC5
    clear hC5
    go_wp2_with fail
    go_ret
    exact ⟨ret_bool (by rw [HR.out, RES.out]), BL.out.trans (K5.out.below.mono BL.out.size)⟩
  · have e1 : ((v : Int) != (u : Int)) = true := by simp; omega
    have RES := Lib.hid (show decide (v < u) = decide (keyN v a < keyN u b) by
      rw [decide_eq_decide, keyN_lt HA.out HBB.out]
      omega)
    clear h
    go_enter Try.func54, Try.ntmps54
    go_upto_region 1 with fail
    rw [HW.out, ← HB.out]
    obtain ⟨r, hr⟩ : ∃ r : Bool, r = decide (v < u) := ⟨_, rfl⟩
    have HR := Lib.hid hr
    have e2 : decide (v < u) = r := hr.symm
    clear hr
    go_wp2_with fail
    go_ret
    exact ⟨ret_bool (by rw [← RES.out]; exact HR.out), BL.out⟩
end Go.Proofs.Ytpjfpcebjneblaa
