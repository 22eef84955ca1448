/- InfoFades. -/
import Derived.Test.YtojijeaofkndpaaIn6
namespace Go.Proofs.Ytojijeaofkndpaa
open Go.RowKit
attribute [local irreducible] wpQuiet wpList
set_option linter.unusedSimpArgs false
set_option linter.unusedVariables false

theorem wrap_i64 {x : Int} (h0 : -9223372036854775808 ≤ x) (h1 : x < 9223372036854775808) : IntKind.i64.wrap x = x := by
  simp [IntKind.wrap, IntKind.bits, IntKind.signed]
  omega
theorem and_bound (a : Int) : 0 ≤ bits BinOp.and IntKind.i64 a 1099511627775 ∧ bits BinOp.and IntKind.i64 a 1099511627775 < 1099511627776 := by
  have hb : (BitVec.ofInt 64 1099511627775).toNat = 1099511627775 := by decide
  have h : (BitVec.ofInt 64 a &&& BitVec.ofInt 64 1099511627775).toNat ≤ 1099511627775 := by
    rw [BitVec.toNat_and, hb]
    exact Nat.and_le_right
  have e : bits BinOp.and IntKind.i64 a 1099511627775 = IntKind.i64.wrap ((BitVec.ofInt 64 a &&& BitVec.ofInt 64 1099511627775).toNat : Nat) := rfl
  generalize (BitVec.ofInt 64 a &&& BitVec.ofInt 64 1099511627775).toNat = n at h e
  rw [e, wrap_i64 (by omega) (by omega)]
  omega
set_option maxRecDepth 100000 in
set_option maxHeartbeats 8000000 in
theorem fades_law (x : Lp) (w : World) : Calls Try.prog 6 #[.agg (lpA x)] w fun e w' => e = .returned (.bool true) ∧ Below w.heap.size w w' := by
  obtain ⟨k, hk⟩ : ∃ k, k = bits BinOp.and IntKind.i64 x.k1 1099511627775 := ⟨_, rfl⟩
  have hk0 : 0 ≤ k ∧ k < 1099511627776 := by rw [hk]; exact and_bound x.k1
  obtain ⟨k1, hk1⟩ : ∃ k1, k1 = IntKind.i64.wrap (k - 1) := ⟨_, rfl⟩
  have hk2 : k1 = k - 1 := by rw [hk1]; exact wrap_i64 (by omega) (by omega)
  have HK := Lib.hid hk
  have HK1 := Lib.hid hk1
  obtain ⟨m, hm⟩ : ∃ m, m = (IntKind.i64.wrap (Int.tmod (x.n2 : Nat) 3)) := ⟨_, rfl⟩
  have HM := Lib.hid hm
  clear hk hk1 hm
  by_cases hi : m = 2
  case neg =>
    have HI := Lib.hid hi
    clear hi hk0 hk2
    rw [show lpA x = lpA ⟨x.f0, x.f1, x.f2, x.f3, x.f4, x.n0, x.n1, x.n2, x.v, x.k0, x.k1, x.k2, x.k3, x.no⟩ from rfl]
    have K := Lib.hid (Kb.nil w)
    go_enter Try.func6, Try.ntmps6
    go_upto_region 0 with fail
    refine wp_region_lit ?_
    refine kb_box K.out 55 (.tmp 0) (lpA ⟨x.f0, x.f1, x.f2, x.f3, x.f4, x.n0, x.n1, x.n2, x.v, x.k0, x.k1, x.k2, x.k3, x.no⟩) rfl rfl (by rfl) ?_
    intro b1 w1 hb1 hk
    have K1 := Lib.hid (show Kb w [(b1, lpA ⟨x.f0, x.f1, x.f2, x.f3, x.f4, x.n0, x.n1, x.n2, x.v, x.k0, x.k1, x.k2, x.k3, x.no⟩, 55)] w1 from hk)
    clear hk hb1
    (try simp only [Act.put, List.getElem_toArray, List.getElem_cons_succ, List.getElem_cons_zero, List.setIfInBounds_toArray, List.set_cons_zero, List.set_cons_succ])
    refine wpList_val (.bool false) (by rfl) (by go_simp) ?_
    (try simp only [Act.put, List.getElem_toArray, List.getElem_cons_succ, List.getElem_cons_zero, List.setIfInBounds_toArray, List.set_cons_zero, List.set_cons_succ])
    refine wpList_nil ?_
    go_upto_region 1 with fail
    refine wp_region_lit ?_
    refine kb_call K1.out 14 #[] (.bool true) (by rfl) (by go_simp) (ispeaks_any w1) ?_
    intro w2 hk
    have K2 := Lib.hid (show Kb w [(b1, lpA ⟨x.f0, x.f1, x.f2, x.f3, x.f4, x.n0, x.n1, x.n2, x.v, x.k0, x.k1, x.k2, x.k3, x.no⟩, 55)] w2 from hk)
    clear hk
    (try simp only [Act.put, List.getElem_toArray, List.getElem_cons_succ, List.getElem_cons_zero, List.setIfInBounds_toArray, List.set_cons_zero, List.set_cons_succ])
    refine wpList_val (.bool false) (by rfl) (by go_simp) ?_
    (try simp only [Act.put, List.getElem_toArray, List.getElem_cons_succ, List.getElem_cons_zero, List.setIfInBounds_toArray, List.set_cons_zero, List.set_cons_succ])
    refine wpList_nil ?_
    go_upto_region 3 with fail
    refine wp_region_lit ?_
    refine wpList_val (.pointer (some ⟨b1, 12, none⟩)) (by rfl) (by go_simp) ?_
    (try simp only [Act.put, List.getElem_toArray, List.getElem_cons_succ, List.getElem_cons_zero, List.setIfInBounds_toArray, List.set_cons_zero, List.set_cons_succ])
    refine wpList_val (.pointer (some ⟨b1, 13, none⟩)) (by rfl) (by go_simp) ?_
    (try simp only [Act.put, List.getElem_toArray, List.getElem_cons_succ, List.getElem_cons_zero, List.setIfInBounds_toArray, List.set_cons_zero, List.set_cons_succ])
    refine wpList_val (.int .i64 x.k1) (by rfl) (by have q : w2.cell? ⟨b1, 13, none⟩ = some (.int .i64 x.k1) := K2.out.cell (i := 0) rfl (by rfl); go_simp) ?_
    (try simp only [Act.put, List.getElem_toArray, List.getElem_cons_succ, List.getElem_cons_zero, List.setIfInBounds_toArray, List.set_cons_zero, List.set_cons_succ])
    refine wpList_val (.int .i64 k) (by rfl) (by rw [HK.out]; go_simp) ?_
    (try simp only [Act.put, List.getElem_toArray, List.getElem_cons_succ, List.getElem_cons_zero, List.setIfInBounds_toArray, List.set_cons_zero, List.set_cons_succ])
    refine wpList_val (.pointer (some ⟨b1, 12, none⟩)) (by rfl) (by go_simp) ?_
    (try simp only [Act.put, List.getElem_toArray, List.getElem_cons_succ, List.getElem_cons_zero, List.setIfInBounds_toArray, List.set_cons_zero, List.set_cons_succ])
    refine wpList_val (.pointer (some ⟨b1, 13, none⟩)) (by rfl) (by go_simp) ?_
    (try simp only [Act.put, List.getElem_toArray, List.getElem_cons_succ, List.getElem_cons_zero, List.setIfInBounds_toArray, List.set_cons_zero, List.set_cons_succ])
    refine kb_set K2.out 0 rfl 3 _ _ 13 (.int .i64 k) rfl (by rfl) rfl rfl (kb_run_set K2.out (i := 0) rfl 3 13 (.int .i64 x.k1) (.int .i64 k) (by rfl) (fun W h1 h2 => by go_simp)) (lpA ⟨x.f0, x.f1, x.f2, x.f3, x.f4, x.n0, x.n1, x.n2, x.v, x.k0, k, x.k2, x.k3, x.no⟩) (by kernel_rfl) ?_
    intro w3 hk
    have K3 := Lib.hid (show Kb w [(b1, lpA ⟨x.f0, x.f1, x.f2, x.f3, x.f4, x.n0, x.n1, x.n2, x.v, x.k0, k, x.k2, x.k3, x.no⟩, 55)] w3 from hk)
    clear hk
    (try simp only [Act.put, List.getElem_toArray, List.getElem_cons_succ, List.getElem_cons_zero, List.setIfInBounds_toArray, List.set_cons_zero, List.set_cons_succ])
    refine wpList_nil ?_
    go_upto_region 4 with fail
    refine wp_region_lit ?_
    refine wpList_val (.agg (lpA ⟨x.f0, x.f1, x.f2, x.f3, x.f4, x.n0, x.n1, x.n2, x.v, x.k0, k, x.k2, x.k3, x.no⟩)) (by rfl) (kb_all K3.out 0 rfl 55 _ rfl rfl Try.underlying55 rfl (size55)) ?_
    (try simp only [Act.put, List.getElem_toArray, List.getElem_cons_succ, List.getElem_cons_zero, List.setIfInBounds_toArray, List.set_cons_zero, List.set_cons_succ])
    refine kb_call K3.out 15 #[.agg (lpA ⟨x.f0, x.f1, x.f2, x.f3, x.f4, x.n0, x.n1, x.n2, x.v, x.k0, k, x.k2, x.k3, x.no⟩)] (.agg (poA ⟨0, 0, false, 0, (IntKind.i64.wrap (Int.tmod (x.no : Nat) 16)), x.f4, x.f1, x.f0, x.f2, x.f3, (IntKind.i64.wrap (Int.tmod (x.n0 : Nat) 5)), (IntKind.i64.wrap (Int.tmod (x.n1 : Nat) 3)), m, (x.v.r : Nat), (x.v.c : Nat), (x.v.b : Nat), (x.v.p : Nat), x.k0, k, x.k2, x.k3⟩)) (by rfl) (by go_simp) (made_is ⟨x.f0, x.f1, x.f2, x.f3, x.f4, x.n0, x.n1, x.n2, x.v, x.k0, k, x.k2, x.k3, x.no⟩ ⟨0, 0, false, 0, (IntKind.i64.wrap (Int.tmod (x.no : Nat) 16)), x.f4, x.f1, x.f0, x.f2, x.f3, (IntKind.i64.wrap (Int.tmod (x.n0 : Nat) 5)), (IntKind.i64.wrap (Int.tmod (x.n1 : Nat) 3)), m, (x.v.r : Nat), (x.v.c : Nat), (x.v.b : Nat), (x.v.p : Nat), x.k0, k, x.k2, x.k3⟩ (by rw [HM.out]; rfl) w3) ?_
    intro w4 hk
    have K4 := Lib.hid (show Kb w [(b1, lpA ⟨x.f0, x.f1, x.f2, x.f3, x.f4, x.n0, x.n1, x.n2, x.v, x.k0, k, x.k2, x.k3, x.no⟩, 55)] w4 from hk)
    clear hk
    (try simp only [Act.put, List.getElem_toArray, List.getElem_cons_succ, List.getElem_cons_zero, List.setIfInBounds_toArray, List.set_cons_zero, List.set_cons_succ])
    refine kb_alloc K4.out 62 (nil21) rfl z50 (by rfl) ?_
    intro b5 w5 hb5 hk
    have K5 := Lib.hid (show Kb w [(b1, lpA ⟨x.f0, x.f1, x.f2, x.f3, x.f4, x.n0, x.n1, x.n2, x.v, x.k0, k, x.k2, x.k3, x.no⟩, 55), (b5, nil21, 62)] w5 from hk)
    clear hk hb5
    (try simp only [Act.put, List.getElem_toArray, List.getElem_cons_succ, List.getElem_cons_zero, List.setIfInBounds_toArray, List.set_cons_zero, List.set_cons_succ])
    refine kb_row K5.out 1 rfl 62 _ _ (poA ⟨0, 0, false, 0, (IntKind.i64.wrap (Int.tmod (x.no : Nat) 16)), x.f4, x.f1, x.f0, x.f2, x.f3, (IntKind.i64.wrap (Int.tmod (x.n0 : Nat) 5)), (IntKind.i64.wrap (Int.tmod (x.n1 : Nat) 3)), m, (x.v.r : Nat), (x.v.c : Nat), (x.v.b : Nat), (x.v.p : Nat), x.k0, k, x.k2, x.k3⟩) rfl rfl rfl rfl (size50) (by rfl) (po_all _) ?_
    intro w6 hk
    have K6 := Lib.hid (show Kb w [(b1, lpA ⟨x.f0, x.f1, x.f2, x.f3, x.f4, x.n0, x.n1, x.n2, x.v, x.k0, k, x.k2, x.k3, x.no⟩, 55), (b5, poA ⟨0, 0, false, 0, (IntKind.i64.wrap (Int.tmod (x.no : Nat) 16)), x.f4, x.f1, x.f0, x.f2, x.f3, (IntKind.i64.wrap (Int.tmod (x.n0 : Nat) 5)), (IntKind.i64.wrap (Int.tmod (x.n1 : Nat) 3)), m, (x.v.r : Nat), (x.v.c : Nat), (x.v.b : Nat), (x.v.p : Nat), x.k0, k, x.k2, x.k3⟩, 62)] w6 from hk)
    clear hk
    (try simp only [Act.put, List.getElem_toArray, List.getElem_cons_succ, List.getElem_cons_zero, List.setIfInBounds_toArray, List.set_cons_zero, List.set_cons_succ])
    refine wpList_nil ?_
    go_upto_region 5 with fail
    refine wp_region_lit ?_
    refine wpList_val (.agg (poA ⟨0, 0, false, 0, (IntKind.i64.wrap (Int.tmod (x.no : Nat) 16)), x.f4, x.f1, x.f0, x.f2, x.f3, (IntKind.i64.wrap (Int.tmod (x.n0 : Nat) 5)), (IntKind.i64.wrap (Int.tmod (x.n1 : Nat) 3)), m, (x.v.r : Nat), (x.v.c : Nat), (x.v.b : Nat), (x.v.p : Nat), x.k0, k, x.k2, x.k3⟩)) (by rfl) (kb_all K6.out 1 rfl 62 _ rfl rfl Try.underlying62 rfl (size50)) ?_
    (try simp only [Act.put, List.getElem_toArray, List.getElem_cons_succ, List.getElem_cons_zero, List.setIfInBounds_toArray, List.set_cons_zero, List.set_cons_succ])
    refine kb_call K6.out 18 #[.agg (poA ⟨0, 0, false, 0, (IntKind.i64.wrap (Int.tmod (x.no : Nat) 16)), x.f4, x.f1, x.f0, x.f2, x.f3, (IntKind.i64.wrap (Int.tmod (x.n0 : Nat) 5)), (IntKind.i64.wrap (Int.tmod (x.n1 : Nat) 3)), m, (x.v.r : Nat), (x.v.c : Nat), (x.v.b : Nat), (x.v.p : Nat), x.k0, k, x.k2, x.k3⟩)] (.tuple #[.agg (poA ⟨0, 0, false, 0, (IntKind.i64.wrap (Int.tmod (x.no : Nat) 16)), x.f4, x.f1, x.f0, x.f2, x.f3, (IntKind.i64.wrap (Int.tmod (x.n0 : Nat) 5)), (IntKind.i64.wrap (Int.tmod (x.n1 : Nat) 3)), m, (x.v.r : Nat), (x.v.c : Nat), (x.v.b : Nat), (x.v.p : Nat), x.k0, k, x.k2, x.k3⟩), .bool false]) (by rfl) (by go_simp) (fade_is ⟨0, 0, false, 0, (IntKind.i64.wrap (Int.tmod (x.no : Nat) 16)), x.f4, x.f1, x.f0, x.f2, x.f3, (IntKind.i64.wrap (Int.tmod (x.n0 : Nat) 5)), (IntKind.i64.wrap (Int.tmod (x.n1 : Nat) 3)), m, (x.v.r : Nat), (x.v.c : Nat), (x.v.b : Nat), (x.v.p : Nat), x.k0, k, x.k2, x.k3⟩ ⟨0, 0, false, 0, (IntKind.i64.wrap (Int.tmod (x.no : Nat) 16)), x.f4, x.f1, x.f0, x.f2, x.f3, (IntKind.i64.wrap (Int.tmod (x.n0 : Nat) 5)), (IntKind.i64.wrap (Int.tmod (x.n1 : Nat) 3)), m, (x.v.r : Nat), (x.v.c : Nat), (x.v.b : Nat), (x.v.p : Nat), x.k0, k, x.k2, x.k3⟩ false (by unfold fadeP; rw [if_neg HI.out]) (by simp [fadeB, HI.out]) w6) ?_
    intro w7 hk
    have K7 := Lib.hid (show Kb w [(b1, lpA ⟨x.f0, x.f1, x.f2, x.f3, x.f4, x.n0, x.n1, x.n2, x.v, x.k0, k, x.k2, x.k3, x.no⟩, 55), (b5, poA ⟨0, 0, false, 0, (IntKind.i64.wrap (Int.tmod (x.no : Nat) 16)), x.f4, x.f1, x.f0, x.f2, x.f3, (IntKind.i64.wrap (Int.tmod (x.n0 : Nat) 5)), (IntKind.i64.wrap (Int.tmod (x.n1 : Nat) 3)), m, (x.v.r : Nat), (x.v.c : Nat), (x.v.b : Nat), (x.v.p : Nat), x.k0, k, x.k2, x.k3⟩, 62)] w7 from hk)
    clear hk
    (try simp only [Act.put, List.getElem_toArray, List.getElem_cons_succ, List.getElem_cons_zero, List.setIfInBounds_toArray, List.set_cons_zero, List.set_cons_succ])
    refine wpList_val (.tuple #[.agg (poA ⟨0, 0, false, 0, (IntKind.i64.wrap (Int.tmod (x.no : Nat) 16)), x.f4, x.f1, x.f0, x.f2, x.f3, (IntKind.i64.wrap (Int.tmod (x.n0 : Nat) 5)), (IntKind.i64.wrap (Int.tmod (x.n1 : Nat) 3)), m, (x.v.r : Nat), (x.v.c : Nat), (x.v.b : Nat), (x.v.p : Nat), x.k0, k, x.k2, x.k3⟩), .bool false]) (by rfl) (by go_simp) ?_
    (try simp only [Act.put, List.getElem_toArray, List.getElem_cons_succ, List.getElem_cons_zero, List.setIfInBounds_toArray, List.set_cons_zero, List.set_cons_succ])
    refine wpList_val (.agg (poA ⟨0, 0, false, 0, (IntKind.i64.wrap (Int.tmod (x.no : Nat) 16)), x.f4, x.f1, x.f0, x.f2, x.f3, (IntKind.i64.wrap (Int.tmod (x.n0 : Nat) 5)), (IntKind.i64.wrap (Int.tmod (x.n1 : Nat) 3)), m, (x.v.r : Nat), (x.v.c : Nat), (x.v.b : Nat), (x.v.p : Nat), x.k0, k, x.k2, x.k3⟩)) (by rfl) (by go_simp) ?_
    (try simp only [Act.put, List.getElem_toArray, List.getElem_cons_succ, List.getElem_cons_zero, List.setIfInBounds_toArray, List.set_cons_zero, List.set_cons_succ])
    refine wpList_val (.bool false) (by rfl) (by go_simp) ?_
    (try simp only [Act.put, List.getElem_toArray, List.getElem_cons_succ, List.getElem_cons_zero, List.setIfInBounds_toArray, List.set_cons_zero, List.set_cons_succ])
    refine kb_alloc K7.out 62 (nil21) rfl z50 (by rfl) ?_
    intro b8 w8 hb8 hk
    have K8 := Lib.hid (show Kb w [(b1, lpA ⟨x.f0, x.f1, x.f2, x.f3, x.f4, x.n0, x.n1, x.n2, x.v, x.k0, k, x.k2, x.k3, x.no⟩, 55), (b5, poA ⟨0, 0, false, 0, (IntKind.i64.wrap (Int.tmod (x.no : Nat) 16)), x.f4, x.f1, x.f0, x.f2, x.f3, (IntKind.i64.wrap (Int.tmod (x.n0 : Nat) 5)), (IntKind.i64.wrap (Int.tmod (x.n1 : Nat) 3)), m, (x.v.r : Nat), (x.v.c : Nat), (x.v.b : Nat), (x.v.p : Nat), x.k0, k, x.k2, x.k3⟩, 62), (b8, nil21, 62)] w8 from hk)
    clear hk hb8
    (try simp only [Act.put, List.getElem_toArray, List.getElem_cons_succ, List.getElem_cons_zero, List.setIfInBounds_toArray, List.set_cons_zero, List.set_cons_succ])
    refine kb_row K8.out 2 rfl 62 _ _ (poA ⟨0, 0, false, 0, (IntKind.i64.wrap (Int.tmod (x.no : Nat) 16)), x.f4, x.f1, x.f0, x.f2, x.f3, (IntKind.i64.wrap (Int.tmod (x.n0 : Nat) 5)), (IntKind.i64.wrap (Int.tmod (x.n1 : Nat) 3)), m, (x.v.r : Nat), (x.v.c : Nat), (x.v.b : Nat), (x.v.p : Nat), x.k0, k, x.k2, x.k3⟩) rfl rfl rfl rfl (size50) (by rfl) (po_all _) ?_
    intro w9 hk
    have K9 := Lib.hid (show Kb w [(b1, lpA ⟨x.f0, x.f1, x.f2, x.f3, x.f4, x.n0, x.n1, x.n2, x.v, x.k0, k, x.k2, x.k3, x.no⟩, 55), (b5, poA ⟨0, 0, false, 0, (IntKind.i64.wrap (Int.tmod (x.no : Nat) 16)), x.f4, x.f1, x.f0, x.f2, x.f3, (IntKind.i64.wrap (Int.tmod (x.n0 : Nat) 5)), (IntKind.i64.wrap (Int.tmod (x.n1 : Nat) 3)), m, (x.v.r : Nat), (x.v.c : Nat), (x.v.b : Nat), (x.v.p : Nat), x.k0, k, x.k2, x.k3⟩, 62), (b8, poA ⟨0, 0, false, 0, (IntKind.i64.wrap (Int.tmod (x.no : Nat) 16)), x.f4, x.f1, x.f0, x.f2, x.f3, (IntKind.i64.wrap (Int.tmod (x.n0 : Nat) 5)), (IntKind.i64.wrap (Int.tmod (x.n1 : Nat) 3)), m, (x.v.r : Nat), (x.v.c : Nat), (x.v.b : Nat), (x.v.p : Nat), x.k0, k, x.k2, x.k3⟩, 62)] w9 from hk)
    clear hk
    (try simp only [Act.put, List.getElem_toArray, List.getElem_cons_succ, List.getElem_cons_zero, List.setIfInBounds_toArray, List.set_cons_zero, List.set_cons_succ])
    refine wpList_val (.bool false) (by rfl) (by go_simp) ?_
    (try simp only [Act.put, List.getElem_toArray, List.getElem_cons_succ, List.getElem_cons_zero, List.setIfInBounds_toArray, List.set_cons_zero, List.set_cons_succ])
    refine wpList_nil ?_
    go_upto_region 6 with fail
    refine wp_region_lit ?_
    refine wpList_val (.pointer (some ⟨b5, 12, none⟩)) (by rfl) (by go_simp) ?_
    (try simp only [Act.put, List.getElem_toArray, List.getElem_cons_succ, List.getElem_cons_zero, List.setIfInBounds_toArray, List.set_cons_zero, List.set_cons_succ])
    refine wpList_val (.int .i64 m) (by rfl) (by have q : w9.cell? ⟨b5, 12, none⟩ = some (.int .i64 m) := K9.out.cell (i := 1) rfl (by rfl); go_simp) ?_
    (try simp only [Act.put, List.getElem_toArray, List.getElem_cons_succ, List.getElem_cons_zero, List.setIfInBounds_toArray, List.set_cons_zero, List.set_cons_succ])
    refine wpList_val (.bool true) (by rfl) (by have q := HI.out; go_simp) ?_
    (try simp only [Act.put, List.getElem_toArray, List.getElem_cons_succ, List.getElem_cons_zero, List.setIfInBounds_toArray, List.set_cons_zero, List.set_cons_succ])
    refine wpList_nil ?_
    go_upto_region 7 with fail
    refine wp_region_lit ?_
    refine wpList_val (.bool false) (by rfl) (by go_simp) ?_
    (try simp only [Act.put, List.getElem_toArray, List.getElem_cons_succ, List.getElem_cons_zero, List.setIfInBounds_toArray, List.set_cons_zero, List.set_cons_succ])
    refine wpList_val (.bool true) (by rfl) (by go_simp) ?_
    (try simp only [Act.put, List.getElem_toArray, List.getElem_cons_succ, List.getElem_cons_zero, List.setIfInBounds_toArray, List.set_cons_zero, List.set_cons_succ])
    refine wpList_val (.bool true) (by rfl) (by go_simp) ?_
    (try simp only [Act.put, List.getElem_toArray, List.getElem_cons_succ, List.getElem_cons_zero, List.setIfInBounds_toArray, List.set_cons_zero, List.set_cons_succ])
    refine wpList_val (.agg (poA ⟨0, 0, false, 0, (IntKind.i64.wrap (Int.tmod (x.no : Nat) 16)), x.f4, x.f1, x.f0, x.f2, x.f3, (IntKind.i64.wrap (Int.tmod (x.n0 : Nat) 5)), (IntKind.i64.wrap (Int.tmod (x.n1 : Nat) 3)), m, (x.v.r : Nat), (x.v.c : Nat), (x.v.b : Nat), (x.v.p : Nat), x.k0, k, x.k2, x.k3⟩)) (by rfl) (kb_all K9.out 2 rfl 62 _ rfl rfl Try.underlying62 rfl (size50)) ?_
    (try simp only [Act.put, List.getElem_toArray, List.getElem_cons_succ, List.getElem_cons_zero, List.setIfInBounds_toArray, List.set_cons_zero, List.set_cons_succ])
    refine wpList_val (.agg (poA ⟨0, 0, false, 0, (IntKind.i64.wrap (Int.tmod (x.no : Nat) 16)), x.f4, x.f1, x.f0, x.f2, x.f3, (IntKind.i64.wrap (Int.tmod (x.n0 : Nat) 5)), (IntKind.i64.wrap (Int.tmod (x.n1 : Nat) 3)), m, (x.v.r : Nat), (x.v.c : Nat), (x.v.b : Nat), (x.v.p : Nat), x.k0, k, x.k2, x.k3⟩)) (by rfl) (kb_all K9.out 1 rfl 62 _ rfl rfl Try.underlying62 rfl (size50)) ?_
    (try simp only [Act.put, List.getElem_toArray, List.getElem_cons_succ, List.getElem_cons_zero, List.setIfInBounds_toArray, List.set_cons_zero, List.set_cons_succ])
    refine wpList_val (.bool true) (by rfl) (by have q := eq_po ⟨0, 0, false, 0, (IntKind.i64.wrap (Int.tmod (x.no : Nat) 16)), x.f4, x.f1, x.f0, x.f2, x.f3, (IntKind.i64.wrap (Int.tmod (x.n0 : Nat) 5)), (IntKind.i64.wrap (Int.tmod (x.n1 : Nat) 3)), m, (x.v.r : Nat), (x.v.c : Nat), (x.v.b : Nat), (x.v.p : Nat), x.k0, k, x.k2, x.k3⟩; go_simp) ?_
    (try simp only [Act.put, List.getElem_toArray, List.getElem_cons_succ, List.getElem_cons_zero, List.setIfInBounds_toArray, List.set_cons_zero, List.set_cons_succ])
    refine wpList_val (.bool true) (by rfl) (run_pick_yes (.tmp 26) (.tmp 29) (.const (.bool false)) _ rfl rfl rfl) ?_
    (try simp only [Act.put, List.getElem_toArray, List.getElem_cons_succ, List.getElem_cons_zero, List.setIfInBounds_toArray, List.set_cons_zero, List.set_cons_succ])
    refine wpList_val (.bool true) (by rfl) (by go_simp) ?_
    (try simp only [Act.put, List.getElem_toArray, List.getElem_cons_succ, List.getElem_cons_zero, List.setIfInBounds_toArray, List.set_cons_zero, List.set_cons_succ])
    refine wpList_nil ?_
    go_wp2_with fail
    go_ret
    exact ⟨ret_bool (rfl), K9.out.below⟩
  case pos =>
    by_cases hl : 1 < k
    case pos =>
      have hle : ¬ k1 ≤ 0 := by omega
      have HI := Lib.hid hi
      have HL := Lib.hid hl
      have HLE := Lib.hid hle
      clear hl hle
      clear hi hk0 hk2
      rw [show lpA x = lpA ⟨x.f0, x.f1, x.f2, x.f3, x.f4, x.n0, x.n1, x.n2, x.v, x.k0, x.k1, x.k2, x.k3, x.no⟩ from rfl]
      have K := Lib.hid (Kb.nil w)
      go_enter Try.func6, Try.ntmps6
      go_upto_region 0 with fail
      refine wp_region_lit ?_
      refine kb_box K.out 55 (.tmp 0) (lpA ⟨x.f0, x.f1, x.f2, x.f3, x.f4, x.n0, x.n1, x.n2, x.v, x.k0, x.k1, x.k2, x.k3, x.no⟩) rfl rfl (by rfl) ?_
      intro b1 w1 hb1 hk
      have K1 := Lib.hid (show Kb w [(b1, lpA ⟨x.f0, x.f1, x.f2, x.f3, x.f4, x.n0, x.n1, x.n2, x.v, x.k0, x.k1, x.k2, x.k3, x.no⟩, 55)] w1 from hk)
      clear hk hb1
      (try simp only [Act.put, List.getElem_toArray, List.getElem_cons_succ, List.getElem_cons_zero, List.setIfInBounds_toArray, List.set_cons_zero, List.set_cons_succ])
      refine wpList_val (.bool false) (by rfl) (by go_simp) ?_
      (try simp only [Act.put, List.getElem_toArray, List.getElem_cons_succ, List.getElem_cons_zero, List.setIfInBounds_toArray, List.set_cons_zero, List.set_cons_succ])
      refine wpList_nil ?_
      go_upto_region 1 with fail
      refine wp_region_lit ?_
      refine kb_call K1.out 14 #[] (.bool true) (by rfl) (by go_simp) (ispeaks_any w1) ?_
      intro w2 hk
      have K2 := Lib.hid (show Kb w [(b1, lpA ⟨x.f0, x.f1, x.f2, x.f3, x.f4, x.n0, x.n1, x.n2, x.v, x.k0, x.k1, x.k2, x.k3, x.no⟩, 55)] w2 from hk)
      clear hk
      (try simp only [Act.put, List.getElem_toArray, List.getElem_cons_succ, List.getElem_cons_zero, List.setIfInBounds_toArray, List.set_cons_zero, List.set_cons_succ])
      refine wpList_val (.bool false) (by rfl) (by go_simp) ?_
      (try simp only [Act.put, List.getElem_toArray, List.getElem_cons_succ, List.getElem_cons_zero, List.setIfInBounds_toArray, List.set_cons_zero, List.set_cons_succ])
      refine wpList_nil ?_
      go_upto_region 3 with fail
      refine wp_region_lit ?_
      refine wpList_val (.pointer (some ⟨b1, 12, none⟩)) (by rfl) (by go_simp) ?_
      (try simp only [Act.put, List.getElem_toArray, List.getElem_cons_succ, List.getElem_cons_zero, List.setIfInBounds_toArray, List.set_cons_zero, List.set_cons_succ])
      refine wpList_val (.pointer (some ⟨b1, 13, none⟩)) (by rfl) (by go_simp) ?_
      (try simp only [Act.put, List.getElem_toArray, List.getElem_cons_succ, List.getElem_cons_zero, List.setIfInBounds_toArray, List.set_cons_zero, List.set_cons_succ])
      refine wpList_val (.int .i64 x.k1) (by rfl) (by have q : w2.cell? ⟨b1, 13, none⟩ = some (.int .i64 x.k1) := K2.out.cell (i := 0) rfl (by rfl); go_simp) ?_
      (try simp only [Act.put, List.getElem_toArray, List.getElem_cons_succ, List.getElem_cons_zero, List.setIfInBounds_toArray, List.set_cons_zero, List.set_cons_succ])
      refine wpList_val (.int .i64 k) (by rfl) (by rw [HK.out]; go_simp) ?_
      (try simp only [Act.put, List.getElem_toArray, List.getElem_cons_succ, List.getElem_cons_zero, List.setIfInBounds_toArray, List.set_cons_zero, List.set_cons_succ])
      refine wpList_val (.pointer (some ⟨b1, 12, none⟩)) (by rfl) (by go_simp) ?_
      (try simp only [Act.put, List.getElem_toArray, List.getElem_cons_succ, List.getElem_cons_zero, List.setIfInBounds_toArray, List.set_cons_zero, List.set_cons_succ])
      refine wpList_val (.pointer (some ⟨b1, 13, none⟩)) (by rfl) (by go_simp) ?_
      (try simp only [Act.put, List.getElem_toArray, List.getElem_cons_succ, List.getElem_cons_zero, List.setIfInBounds_toArray, List.set_cons_zero, List.set_cons_succ])
      refine kb_set K2.out 0 rfl 3 _ _ 13 (.int .i64 k) rfl (by rfl) rfl rfl (kb_run_set K2.out (i := 0) rfl 3 13 (.int .i64 x.k1) (.int .i64 k) (by rfl) (fun W h1 h2 => by go_simp)) (lpA ⟨x.f0, x.f1, x.f2, x.f3, x.f4, x.n0, x.n1, x.n2, x.v, x.k0, k, x.k2, x.k3, x.no⟩) (by kernel_rfl) ?_
      intro w3 hk
      have K3 := Lib.hid (show Kb w [(b1, lpA ⟨x.f0, x.f1, x.f2, x.f3, x.f4, x.n0, x.n1, x.n2, x.v, x.k0, k, x.k2, x.k3, x.no⟩, 55)] w3 from hk)
      clear hk
      (try simp only [Act.put, List.getElem_toArray, List.getElem_cons_succ, List.getElem_cons_zero, List.setIfInBounds_toArray, List.set_cons_zero, List.set_cons_succ])
      refine wpList_nil ?_
      go_upto_region 4 with fail
      refine wp_region_lit ?_
      refine wpList_val (.agg (lpA ⟨x.f0, x.f1, x.f2, x.f3, x.f4, x.n0, x.n1, x.n2, x.v, x.k0, k, x.k2, x.k3, x.no⟩)) (by rfl) (kb_all K3.out 0 rfl 55 _ rfl rfl Try.underlying55 rfl (size55)) ?_
      (try simp only [Act.put, List.getElem_toArray, List.getElem_cons_succ, List.getElem_cons_zero, List.setIfInBounds_toArray, List.set_cons_zero, List.set_cons_succ])
      refine kb_call K3.out 15 #[.agg (lpA ⟨x.f0, x.f1, x.f2, x.f3, x.f4, x.n0, x.n1, x.n2, x.v, x.k0, k, x.k2, x.k3, x.no⟩)] (.agg (poA ⟨0, 0, false, 0, (IntKind.i64.wrap (Int.tmod (x.no : Nat) 16)), x.f4, x.f1, x.f0, x.f2, x.f3, (IntKind.i64.wrap (Int.tmod (x.n0 : Nat) 5)), (IntKind.i64.wrap (Int.tmod (x.n1 : Nat) 3)), m, (x.v.r : Nat), (x.v.c : Nat), (x.v.b : Nat), (x.v.p : Nat), x.k0, k, x.k2, x.k3⟩)) (by rfl) (by go_simp) (made_is ⟨x.f0, x.f1, x.f2, x.f3, x.f4, x.n0, x.n1, x.n2, x.v, x.k0, k, x.k2, x.k3, x.no⟩ ⟨0, 0, false, 0, (IntKind.i64.wrap (Int.tmod (x.no : Nat) 16)), x.f4, x.f1, x.f0, x.f2, x.f3, (IntKind.i64.wrap (Int.tmod (x.n0 : Nat) 5)), (IntKind.i64.wrap (Int.tmod (x.n1 : Nat) 3)), m, (x.v.r : Nat), (x.v.c : Nat), (x.v.b : Nat), (x.v.p : Nat), x.k0, k, x.k2, x.k3⟩ (by rw [HM.out]; rfl) w3) ?_
      intro w4 hk
      have K4 := Lib.hid (show Kb w [(b1, lpA ⟨x.f0, x.f1, x.f2, x.f3, x.f4, x.n0, x.n1, x.n2, x.v, x.k0, k, x.k2, x.k3, x.no⟩, 55)] w4 from hk)
      clear hk
      (try simp only [Act.put, List.getElem_toArray, List.getElem_cons_succ, List.getElem_cons_zero, List.setIfInBounds_toArray, List.set_cons_zero, List.set_cons_succ])
      refine kb_alloc K4.out 62 (nil21) rfl z50 (by rfl) ?_
      intro b5 w5 hb5 hk
      have K5 := Lib.hid (show Kb w [(b1, lpA ⟨x.f0, x.f1, x.f2, x.f3, x.f4, x.n0, x.n1, x.n2, x.v, x.k0, k, x.k2, x.k3, x.no⟩, 55), (b5, nil21, 62)] w5 from hk)
      clear hk hb5
      (try simp only [Act.put, List.getElem_toArray, List.getElem_cons_succ, List.getElem_cons_zero, List.setIfInBounds_toArray, List.set_cons_zero, List.set_cons_succ])
      refine kb_row K5.out 1 rfl 62 _ _ (poA ⟨0, 0, false, 0, (IntKind.i64.wrap (Int.tmod (x.no : Nat) 16)), x.f4, x.f1, x.f0, x.f2, x.f3, (IntKind.i64.wrap (Int.tmod (x.n0 : Nat) 5)), (IntKind.i64.wrap (Int.tmod (x.n1 : Nat) 3)), m, (x.v.r : Nat), (x.v.c : Nat), (x.v.b : Nat), (x.v.p : Nat), x.k0, k, x.k2, x.k3⟩) rfl rfl rfl rfl (size50) (by rfl) (po_all _) ?_
      intro w6 hk
      have K6 := Lib.hid (show Kb w [(b1, lpA ⟨x.f0, x.f1, x.f2, x.f3, x.f4, x.n0, x.n1, x.n2, x.v, x.k0, k, x.k2, x.k3, x.no⟩, 55), (b5, poA ⟨0, 0, false, 0, (IntKind.i64.wrap (Int.tmod (x.no : Nat) 16)), x.f4, x.f1, x.f0, x.f2, x.f3, (IntKind.i64.wrap (Int.tmod (x.n0 : Nat) 5)), (IntKind.i64.wrap (Int.tmod (x.n1 : Nat) 3)), m, (x.v.r : Nat), (x.v.c : Nat), (x.v.b : Nat), (x.v.p : Nat), x.k0, k, x.k2, x.k3⟩, 62)] w6 from hk)
      clear hk
      (try simp only [Act.put, List.getElem_toArray, List.getElem_cons_succ, List.getElem_cons_zero, List.setIfInBounds_toArray, List.set_cons_zero, List.set_cons_succ])
      refine wpList_nil ?_
      go_upto_region 5 with fail
      refine wp_region_lit ?_
      refine wpList_val (.agg (poA ⟨0, 0, false, 0, (IntKind.i64.wrap (Int.tmod (x.no : Nat) 16)), x.f4, x.f1, x.f0, x.f2, x.f3, (IntKind.i64.wrap (Int.tmod (x.n0 : Nat) 5)), (IntKind.i64.wrap (Int.tmod (x.n1 : Nat) 3)), m, (x.v.r : Nat), (x.v.c : Nat), (x.v.b : Nat), (x.v.p : Nat), x.k0, k, x.k2, x.k3⟩)) (by rfl) (kb_all K6.out 1 rfl 62 _ rfl rfl Try.underlying62 rfl (size50)) ?_
      (try simp only [Act.put, List.getElem_toArray, List.getElem_cons_succ, List.getElem_cons_zero, List.setIfInBounds_toArray, List.set_cons_zero, List.set_cons_succ])
      refine kb_call K6.out 18 #[.agg (poA ⟨0, 0, false, 0, (IntKind.i64.wrap (Int.tmod (x.no : Nat) 16)), x.f4, x.f1, x.f0, x.f2, x.f3, (IntKind.i64.wrap (Int.tmod (x.n0 : Nat) 5)), (IntKind.i64.wrap (Int.tmod (x.n1 : Nat) 3)), m, (x.v.r : Nat), (x.v.c : Nat), (x.v.b : Nat), (x.v.p : Nat), x.k0, k, x.k2, x.k3⟩)] (.tuple #[.agg (poA ⟨0, 0, false, 0, (IntKind.i64.wrap (Int.tmod (x.no : Nat) 16)), x.f4, x.f1, x.f0, x.f2, x.f3, (IntKind.i64.wrap (Int.tmod (x.n0 : Nat) 5)), (IntKind.i64.wrap (Int.tmod (x.n1 : Nat) 3)), m, (x.v.r : Nat), (x.v.c : Nat), (x.v.b : Nat), (x.v.p : Nat), x.k0, k1, x.k2, x.k3⟩), .bool false]) (by rfl) (by go_simp) (fade_is ⟨0, 0, false, 0, (IntKind.i64.wrap (Int.tmod (x.no : Nat) 16)), x.f4, x.f1, x.f0, x.f2, x.f3, (IntKind.i64.wrap (Int.tmod (x.n0 : Nat) 5)), (IntKind.i64.wrap (Int.tmod (x.n1 : Nat) 3)), m, (x.v.r : Nat), (x.v.c : Nat), (x.v.b : Nat), (x.v.p : Nat), x.k0, k, x.k2, x.k3⟩ ⟨0, 0, false, 0, (IntKind.i64.wrap (Int.tmod (x.no : Nat) 16)), x.f4, x.f1, x.f0, x.f2, x.f3, (IntKind.i64.wrap (Int.tmod (x.n0 : Nat) 5)), (IntKind.i64.wrap (Int.tmod (x.n1 : Nat) 3)), m, (x.v.r : Nat), (x.v.c : Nat), (x.v.b : Nat), (x.v.p : Nat), x.k0, k1, x.k2, x.k3⟩ false (by unfold fadeP; rw [if_pos HI.out, if_pos HL.out, HK1.out]) (by simp [fadeB, HI.out, HL.out]) w6) ?_
      intro w7 hk
      have K7 := Lib.hid (show Kb w [(b1, lpA ⟨x.f0, x.f1, x.f2, x.f3, x.f4, x.n0, x.n1, x.n2, x.v, x.k0, k, x.k2, x.k3, x.no⟩, 55), (b5, poA ⟨0, 0, false, 0, (IntKind.i64.wrap (Int.tmod (x.no : Nat) 16)), x.f4, x.f1, x.f0, x.f2, x.f3, (IntKind.i64.wrap (Int.tmod (x.n0 : Nat) 5)), (IntKind.i64.wrap (Int.tmod (x.n1 : Nat) 3)), m, (x.v.r : Nat), (x.v.c : Nat), (x.v.b : Nat), (x.v.p : Nat), x.k0, k, x.k2, x.k3⟩, 62)] w7 from hk)
      clear hk
      (try simp only [Act.put, List.getElem_toArray, List.getElem_cons_succ, List.getElem_cons_zero, List.setIfInBounds_toArray, List.set_cons_zero, List.set_cons_succ])
      refine wpList_val (.tuple #[.agg (poA ⟨0, 0, false, 0, (IntKind.i64.wrap (Int.tmod (x.no : Nat) 16)), x.f4, x.f1, x.f0, x.f2, x.f3, (IntKind.i64.wrap (Int.tmod (x.n0 : Nat) 5)), (IntKind.i64.wrap (Int.tmod (x.n1 : Nat) 3)), m, (x.v.r : Nat), (x.v.c : Nat), (x.v.b : Nat), (x.v.p : Nat), x.k0, k1, x.k2, x.k3⟩), .bool false]) (by rfl) (by go_simp) ?_
      (try simp only [Act.put, List.getElem_toArray, List.getElem_cons_succ, List.getElem_cons_zero, List.setIfInBounds_toArray, List.set_cons_zero, List.set_cons_succ])
      refine wpList_val (.agg (poA ⟨0, 0, false, 0, (IntKind.i64.wrap (Int.tmod (x.no : Nat) 16)), x.f4, x.f1, x.f0, x.f2, x.f3, (IntKind.i64.wrap (Int.tmod (x.n0 : Nat) 5)), (IntKind.i64.wrap (Int.tmod (x.n1 : Nat) 3)), m, (x.v.r : Nat), (x.v.c : Nat), (x.v.b : Nat), (x.v.p : Nat), x.k0, k1, x.k2, x.k3⟩)) (by rfl) (by go_simp) ?_
      (try simp only [Act.put, List.getElem_toArray, List.getElem_cons_succ, List.getElem_cons_zero, List.setIfInBounds_toArray, List.set_cons_zero, List.set_cons_succ])
      refine wpList_val (.bool false) (by rfl) (by go_simp) ?_
      (try simp only [Act.put, List.getElem_toArray, List.getElem_cons_succ, List.getElem_cons_zero, List.setIfInBounds_toArray, List.set_cons_zero, List.set_cons_succ])
      refine kb_alloc K7.out 62 (nil21) rfl z50 (by rfl) ?_
      intro b8 w8 hb8 hk
      have K8 := Lib.hid (show Kb w [(b1, lpA ⟨x.f0, x.f1, x.f2, x.f3, x.f4, x.n0, x.n1, x.n2, x.v, x.k0, k, x.k2, x.k3, x.no⟩, 55), (b5, poA ⟨0, 0, false, 0, (IntKind.i64.wrap (Int.tmod (x.no : Nat) 16)), x.f4, x.f1, x.f0, x.f2, x.f3, (IntKind.i64.wrap (Int.tmod (x.n0 : Nat) 5)), (IntKind.i64.wrap (Int.tmod (x.n1 : Nat) 3)), m, (x.v.r : Nat), (x.v.c : Nat), (x.v.b : Nat), (x.v.p : Nat), x.k0, k, x.k2, x.k3⟩, 62), (b8, nil21, 62)] w8 from hk)
      clear hk hb8
      (try simp only [Act.put, List.getElem_toArray, List.getElem_cons_succ, List.getElem_cons_zero, List.setIfInBounds_toArray, List.set_cons_zero, List.set_cons_succ])
      refine kb_row K8.out 2 rfl 62 _ _ (poA ⟨0, 0, false, 0, (IntKind.i64.wrap (Int.tmod (x.no : Nat) 16)), x.f4, x.f1, x.f0, x.f2, x.f3, (IntKind.i64.wrap (Int.tmod (x.n0 : Nat) 5)), (IntKind.i64.wrap (Int.tmod (x.n1 : Nat) 3)), m, (x.v.r : Nat), (x.v.c : Nat), (x.v.b : Nat), (x.v.p : Nat), x.k0, k1, x.k2, x.k3⟩) rfl rfl rfl rfl (size50) (by rfl) (po_all _) ?_
      intro w9 hk
      have K9 := Lib.hid (show Kb w [(b1, lpA ⟨x.f0, x.f1, x.f2, x.f3, x.f4, x.n0, x.n1, x.n2, x.v, x.k0, k, x.k2, x.k3, x.no⟩, 55), (b5, poA ⟨0, 0, false, 0, (IntKind.i64.wrap (Int.tmod (x.no : Nat) 16)), x.f4, x.f1, x.f0, x.f2, x.f3, (IntKind.i64.wrap (Int.tmod (x.n0 : Nat) 5)), (IntKind.i64.wrap (Int.tmod (x.n1 : Nat) 3)), m, (x.v.r : Nat), (x.v.c : Nat), (x.v.b : Nat), (x.v.p : Nat), x.k0, k, x.k2, x.k3⟩, 62), (b8, poA ⟨0, 0, false, 0, (IntKind.i64.wrap (Int.tmod (x.no : Nat) 16)), x.f4, x.f1, x.f0, x.f2, x.f3, (IntKind.i64.wrap (Int.tmod (x.n0 : Nat) 5)), (IntKind.i64.wrap (Int.tmod (x.n1 : Nat) 3)), m, (x.v.r : Nat), (x.v.c : Nat), (x.v.b : Nat), (x.v.p : Nat), x.k0, k1, x.k2, x.k3⟩, 62)] w9 from hk)
      clear hk
      (try simp only [Act.put, List.getElem_toArray, List.getElem_cons_succ, List.getElem_cons_zero, List.setIfInBounds_toArray, List.set_cons_zero, List.set_cons_succ])
      refine wpList_val (.bool false) (by rfl) (by go_simp) ?_
      (try simp only [Act.put, List.getElem_toArray, List.getElem_cons_succ, List.getElem_cons_zero, List.setIfInBounds_toArray, List.set_cons_zero, List.set_cons_succ])
      refine wpList_nil ?_
      go_upto_region 6 with fail
      refine wp_region_lit ?_
      refine wpList_val (.pointer (some ⟨b5, 12, none⟩)) (by rfl) (by go_simp) ?_
      (try simp only [Act.put, List.getElem_toArray, List.getElem_cons_succ, List.getElem_cons_zero, List.setIfInBounds_toArray, List.set_cons_zero, List.set_cons_succ])
      refine wpList_val (.int .i64 m) (by rfl) (by have q : w9.cell? ⟨b5, 12, none⟩ = some (.int .i64 m) := K9.out.cell (i := 1) rfl (by rfl); go_simp) ?_
      (try simp only [Act.put, List.getElem_toArray, List.getElem_cons_succ, List.getElem_cons_zero, List.setIfInBounds_toArray, List.set_cons_zero, List.set_cons_succ])
      refine wpList_val (.bool false) (by rfl) (by have q := HI.out; go_simp) ?_
      (try simp only [Act.put, List.getElem_toArray, List.getElem_cons_succ, List.getElem_cons_zero, List.setIfInBounds_toArray, List.set_cons_zero, List.set_cons_succ])
      refine wpList_nil ?_
      go_upto_region 8 with fail
      refine wp_region_lit ?_
      refine wpList_val (.pointer (some ⟨b5, 18, none⟩)) (by rfl) (by go_simp) ?_
      (try simp only [Act.put, List.getElem_toArray, List.getElem_cons_succ, List.getElem_cons_zero, List.setIfInBounds_toArray, List.set_cons_zero, List.set_cons_succ])
      refine wpList_val (.int .i64 k) (by rfl) (by have q : w9.cell? ⟨b5, 18, none⟩ = some (.int .i64 k) := K9.out.cell (i := 1) rfl (by rfl); go_simp) ?_
      (try simp only [Act.put, List.getElem_toArray, List.getElem_cons_succ, List.getElem_cons_zero, List.setIfInBounds_toArray, List.set_cons_zero, List.set_cons_succ])
      refine wpList_val (.int .i64 k1) (by rfl) (by rw [HK1.out]; go_simp) ?_
      (try simp only [Act.put, List.getElem_toArray, List.getElem_cons_succ, List.getElem_cons_zero, List.setIfInBounds_toArray, List.set_cons_zero, List.set_cons_succ])
      refine wpList_val (.pointer (some ⟨b5, 18, none⟩)) (by rfl) (by go_simp) ?_
      (try simp only [Act.put, List.getElem_toArray, List.getElem_cons_succ, List.getElem_cons_zero, List.setIfInBounds_toArray, List.set_cons_zero, List.set_cons_succ])
      refine kb_set K9.out 1 rfl 3 _ _ 18 (.int .i64 k1) rfl (by rfl) rfl rfl (kb_run_set K9.out (i := 1) rfl 3 18 (.int .i64 k) (.int .i64 k1) (by rfl) (fun W h1 h2 => by go_simp)) (poA ⟨0, 0, false, 0, (IntKind.i64.wrap (Int.tmod (x.no : Nat) 16)), x.f4, x.f1, x.f0, x.f2, x.f3, (IntKind.i64.wrap (Int.tmod (x.n0 : Nat) 5)), (IntKind.i64.wrap (Int.tmod (x.n1 : Nat) 3)), m, (x.v.r : Nat), (x.v.c : Nat), (x.v.b : Nat), (x.v.p : Nat), x.k0, k1, x.k2, x.k3⟩) (by kernel_rfl) ?_
      intro w10 hk
      have K10 := Lib.hid (show Kb w [(b1, lpA ⟨x.f0, x.f1, x.f2, x.f3, x.f4, x.n0, x.n1, x.n2, x.v, x.k0, k, x.k2, x.k3, x.no⟩, 55), (b5, poA ⟨0, 0, false, 0, (IntKind.i64.wrap (Int.tmod (x.no : Nat) 16)), x.f4, x.f1, x.f0, x.f2, x.f3, (IntKind.i64.wrap (Int.tmod (x.n0 : Nat) 5)), (IntKind.i64.wrap (Int.tmod (x.n1 : Nat) 3)), m, (x.v.r : Nat), (x.v.c : Nat), (x.v.b : Nat), (x.v.p : Nat), x.k0, k1, x.k2, x.k3⟩, 62), (b8, poA ⟨0, 0, false, 0, (IntKind.i64.wrap (Int.tmod (x.no : Nat) 16)), x.f4, x.f1, x.f0, x.f2, x.f3, (IntKind.i64.wrap (Int.tmod (x.n0 : Nat) 5)), (IntKind.i64.wrap (Int.tmod (x.n1 : Nat) 3)), m, (x.v.r : Nat), (x.v.c : Nat), (x.v.b : Nat), (x.v.p : Nat), x.k0, k1, x.k2, x.k3⟩, 62)] w10 from hk)
      clear hk
      (try simp only [Act.put, List.getElem_toArray, List.getElem_cons_succ, List.getElem_cons_zero, List.setIfInBounds_toArray, List.set_cons_zero, List.set_cons_succ])
      refine wpList_nil ?_
      go_upto_region 9 with fail
      refine wp_region_lit ?_
      refine wpList_val (.pointer (some ⟨b5, 18, none⟩)) (by rfl) (by go_simp) ?_
      (try simp only [Act.put, List.getElem_toArray, List.getElem_cons_succ, List.getElem_cons_zero, List.setIfInBounds_toArray, List.set_cons_zero, List.set_cons_succ])
      refine wpList_val (.int .i64 k1) (by rfl) (by have q : w10.cell? ⟨b5, 18, none⟩ = some (.int .i64 k1) := K10.out.cell (i := 1) rfl (by rfl); go_simp) ?_
      (try simp only [Act.put, List.getElem_toArray, List.getElem_cons_succ, List.getElem_cons_zero, List.setIfInBounds_toArray, List.set_cons_zero, List.set_cons_succ])
      refine wpList_val (.bool false) (by rfl) (by have q := HLE.out; go_simp) ?_
      (try simp only [Act.put, List.getElem_toArray, List.getElem_cons_succ, List.getElem_cons_zero, List.setIfInBounds_toArray, List.set_cons_zero, List.set_cons_succ])
      refine wpList_nil ?_
      go_upto_region 12 with fail
      refine wp_region_lit ?_
      refine wpList_val (.bool false) (by rfl) (by go_simp) ?_
      (try simp only [Act.put, List.getElem_toArray, List.getElem_cons_succ, List.getElem_cons_zero, List.setIfInBounds_toArray, List.set_cons_zero, List.set_cons_succ])
      refine wpList_val (.bool true) (by rfl) (by go_simp) ?_
      (try simp only [Act.put, List.getElem_toArray, List.getElem_cons_succ, List.getElem_cons_zero, List.setIfInBounds_toArray, List.set_cons_zero, List.set_cons_succ])
      refine wpList_val (.bool true) (by rfl) (by go_simp) ?_
      (try simp only [Act.put, List.getElem_toArray, List.getElem_cons_succ, List.getElem_cons_zero, List.setIfInBounds_toArray, List.set_cons_zero, List.set_cons_succ])
      refine wpList_val (.agg (poA ⟨0, 0, false, 0, (IntKind.i64.wrap (Int.tmod (x.no : Nat) 16)), x.f4, x.f1, x.f0, x.f2, x.f3, (IntKind.i64.wrap (Int.tmod (x.n0 : Nat) 5)), (IntKind.i64.wrap (Int.tmod (x.n1 : Nat) 3)), m, (x.v.r : Nat), (x.v.c : Nat), (x.v.b : Nat), (x.v.p : Nat), x.k0, k1, x.k2, x.k3⟩)) (by rfl) (kb_all K10.out 2 rfl 62 _ rfl rfl Try.underlying62 rfl (size50)) ?_
      (try simp only [Act.put, List.getElem_toArray, List.getElem_cons_succ, List.getElem_cons_zero, List.setIfInBounds_toArray, List.set_cons_zero, List.set_cons_succ])
      refine wpList_val (.agg (poA ⟨0, 0, false, 0, (IntKind.i64.wrap (Int.tmod (x.no : Nat) 16)), x.f4, x.f1, x.f0, x.f2, x.f3, (IntKind.i64.wrap (Int.tmod (x.n0 : Nat) 5)), (IntKind.i64.wrap (Int.tmod (x.n1 : Nat) 3)), m, (x.v.r : Nat), (x.v.c : Nat), (x.v.b : Nat), (x.v.p : Nat), x.k0, k1, x.k2, x.k3⟩)) (by rfl) (kb_all K10.out 1 rfl 62 _ rfl rfl Try.underlying62 rfl (size50)) ?_
      (try simp only [Act.put, List.getElem_toArray, List.getElem_cons_succ, List.getElem_cons_zero, List.setIfInBounds_toArray, List.set_cons_zero, List.set_cons_succ])
      refine wpList_val (.bool true) (by rfl) (by have q := eq_po ⟨0, 0, false, 0, (IntKind.i64.wrap (Int.tmod (x.no : Nat) 16)), x.f4, x.f1, x.f0, x.f2, x.f3, (IntKind.i64.wrap (Int.tmod (x.n0 : Nat) 5)), (IntKind.i64.wrap (Int.tmod (x.n1 : Nat) 3)), m, (x.v.r : Nat), (x.v.c : Nat), (x.v.b : Nat), (x.v.p : Nat), x.k0, k1, x.k2, x.k3⟩; go_simp) ?_
      (try simp only [Act.put, List.getElem_toArray, List.getElem_cons_succ, List.getElem_cons_zero, List.setIfInBounds_toArray, List.set_cons_zero, List.set_cons_succ])
      refine wpList_val (.bool true) (by rfl) (run_pick_yes (.tmp 51) (.tmp 54) (.const (.bool false)) _ rfl rfl rfl) ?_
      (try simp only [Act.put, List.getElem_toArray, List.getElem_cons_succ, List.getElem_cons_zero, List.setIfInBounds_toArray, List.set_cons_zero, List.set_cons_succ])
      refine wpList_val (.bool true) (by rfl) (by go_simp) ?_
      (try simp only [Act.put, List.getElem_toArray, List.getElem_cons_succ, List.getElem_cons_zero, List.setIfInBounds_toArray, List.set_cons_zero, List.set_cons_succ])
      refine wpList_nil ?_
      go_wp2_with fail
      go_ret
      exact ⟨ret_bool (rfl), K10.out.below⟩
    case neg =>
      have hle : k1 ≤ 0 := by omega
      have HI := Lib.hid hi
      have HL := Lib.hid hl
      have HLE := Lib.hid hle
      clear hl hle
      clear hi hk0 hk2
      rw [show lpA x = lpA ⟨x.f0, x.f1, x.f2, x.f3, x.f4, x.n0, x.n1, x.n2, x.v, x.k0, x.k1, x.k2, x.k3, x.no⟩ from rfl]
      have K := Lib.hid (Kb.nil w)
      go_enter Try.func6, Try.ntmps6
      go_upto_region 0 with fail
      refine wp_region_lit ?_
      refine kb_box K.out 55 (.tmp 0) (lpA ⟨x.f0, x.f1, x.f2, x.f3, x.f4, x.n0, x.n1, x.n2, x.v, x.k0, x.k1, x.k2, x.k3, x.no⟩) rfl rfl (by rfl) ?_
      intro b1 w1 hb1 hk
      have K1 := Lib.hid (show Kb w [(b1, lpA ⟨x.f0, x.f1, x.f2, x.f3, x.f4, x.n0, x.n1, x.n2, x.v, x.k0, x.k1, x.k2, x.k3, x.no⟩, 55)] w1 from hk)
      clear hk hb1
      (try simp only [Act.put, List.getElem_toArray, List.getElem_cons_succ, List.getElem_cons_zero, List.setIfInBounds_toArray, List.set_cons_zero, List.set_cons_succ])
      refine wpList_val (.bool false) (by rfl) (by go_simp) ?_
      (try simp only [Act.put, List.getElem_toArray, List.getElem_cons_succ, List.getElem_cons_zero, List.setIfInBounds_toArray, List.set_cons_zero, List.set_cons_succ])
      refine wpList_nil ?_
      go_upto_region 1 with fail
      refine wp_region_lit ?_
      refine kb_call K1.out 14 #[] (.bool true) (by rfl) (by go_simp) (ispeaks_any w1) ?_
      intro w2 hk
      have K2 := Lib.hid (show Kb w [(b1, lpA ⟨x.f0, x.f1, x.f2, x.f3, x.f4, x.n0, x.n1, x.n2, x.v, x.k0, x.k1, x.k2, x.k3, x.no⟩, 55)] w2 from hk)
      clear hk
      (try simp only [Act.put, List.getElem_toArray, List.getElem_cons_succ, List.getElem_cons_zero, List.setIfInBounds_toArray, List.set_cons_zero, List.set_cons_succ])
      refine wpList_val (.bool false) (by rfl) (by go_simp) ?_
      (try simp only [Act.put, List.getElem_toArray, List.getElem_cons_succ, List.getElem_cons_zero, List.setIfInBounds_toArray, List.set_cons_zero, List.set_cons_succ])
      refine wpList_nil ?_
      go_upto_region 3 with fail
      refine wp_region_lit ?_
      refine wpList_val (.pointer (some ⟨b1, 12, none⟩)) (by rfl) (by go_simp) ?_
      (try simp only [Act.put, List.getElem_toArray, List.getElem_cons_succ, List.getElem_cons_zero, List.setIfInBounds_toArray, List.set_cons_zero, List.set_cons_succ])
      refine wpList_val (.pointer (some ⟨b1, 13, none⟩)) (by rfl) (by go_simp) ?_
      (try simp only [Act.put, List.getElem_toArray, List.getElem_cons_succ, List.getElem_cons_zero, List.setIfInBounds_toArray, List.set_cons_zero, List.set_cons_succ])
      refine wpList_val (.int .i64 x.k1) (by rfl) (by have q : w2.cell? ⟨b1, 13, none⟩ = some (.int .i64 x.k1) := K2.out.cell (i := 0) rfl (by rfl); go_simp) ?_
      (try simp only [Act.put, List.getElem_toArray, List.getElem_cons_succ, List.getElem_cons_zero, List.setIfInBounds_toArray, List.set_cons_zero, List.set_cons_succ])
      refine wpList_val (.int .i64 k) (by rfl) (by rw [HK.out]; go_simp) ?_
      (try simp only [Act.put, List.getElem_toArray, List.getElem_cons_succ, List.getElem_cons_zero, List.setIfInBounds_toArray, List.set_cons_zero, List.set_cons_succ])
      refine wpList_val (.pointer (some ⟨b1, 12, none⟩)) (by rfl) (by go_simp) ?_
      (try simp only [Act.put, List.getElem_toArray, List.getElem_cons_succ, List.getElem_cons_zero, List.setIfInBounds_toArray, List.set_cons_zero, List.set_cons_succ])
      refine wpList_val (.pointer (some ⟨b1, 13, none⟩)) (by rfl) (by go_simp) ?_
      (try simp only [Act.put, List.getElem_toArray, List.getElem_cons_succ, List.getElem_cons_zero, List.setIfInBounds_toArray, List.set_cons_zero, List.set_cons_succ])
      refine kb_set K2.out 0 rfl 3 _ _ 13 (.int .i64 k) rfl (by rfl) rfl rfl (kb_run_set K2.out (i := 0) rfl 3 13 (.int .i64 x.k1) (.int .i64 k) (by rfl) (fun W h1 h2 => by go_simp)) (lpA ⟨x.f0, x.f1, x.f2, x.f3, x.f4, x.n0, x.n1, x.n2, x.v, x.k0, k, x.k2, x.k3, x.no⟩) (by kernel_rfl) ?_
      intro w3 hk
      have K3 := Lib.hid (show Kb w [(b1, lpA ⟨x.f0, x.f1, x.f2, x.f3, x.f4, x.n0, x.n1, x.n2, x.v, x.k0, k, x.k2, x.k3, x.no⟩, 55)] w3 from hk)
      clear hk
      (try simp only [Act.put, List.getElem_toArray, List.getElem_cons_succ, List.getElem_cons_zero, List.setIfInBounds_toArray, List.set_cons_zero, List.set_cons_succ])
      refine wpList_nil ?_
      go_upto_region 4 with fail
      refine wp_region_lit ?_
      refine wpList_val (.agg (lpA ⟨x.f0, x.f1, x.f2, x.f3, x.f4, x.n0, x.n1, x.n2, x.v, x.k0, k, x.k2, x.k3, x.no⟩)) (by rfl) (kb_all K3.out 0 rfl 55 _ rfl rfl Try.underlying55 rfl (size55)) ?_
      (try simp only [Act.put, List.getElem_toArray, List.getElem_cons_succ, List.getElem_cons_zero, List.setIfInBounds_toArray, List.set_cons_zero, List.set_cons_succ])
      refine kb_call K3.out 15 #[.agg (lpA ⟨x.f0, x.f1, x.f2, x.f3, x.f4, x.n0, x.n1, x.n2, x.v, x.k0, k, x.k2, x.k3, x.no⟩)] (.agg (poA ⟨0, 0, false, 0, (IntKind.i64.wrap (Int.tmod (x.no : Nat) 16)), x.f4, x.f1, x.f0, x.f2, x.f3, (IntKind.i64.wrap (Int.tmod (x.n0 : Nat) 5)), (IntKind.i64.wrap (Int.tmod (x.n1 : Nat) 3)), m, (x.v.r : Nat), (x.v.c : Nat), (x.v.b : Nat), (x.v.p : Nat), x.k0, k, x.k2, x.k3⟩)) (by rfl) (by go_simp) (made_is ⟨x.f0, x.f1, x.f2, x.f3, x.f4, x.n0, x.n1, x.n2, x.v, x.k0, k, x.k2, x.k3, x.no⟩ ⟨0, 0, false, 0, (IntKind.i64.wrap (Int.tmod (x.no : Nat) 16)), x.f4, x.f1, x.f0, x.f2, x.f3, (IntKind.i64.wrap (Int.tmod (x.n0 : Nat) 5)), (IntKind.i64.wrap (Int.tmod (x.n1 : Nat) 3)), m, (x.v.r : Nat), (x.v.c : Nat), (x.v.b : Nat), (x.v.p : Nat), x.k0, k, x.k2, x.k3⟩ (by rw [HM.out]; rfl) w3) ?_
      intro w4 hk
      have K4 := Lib.hid (show Kb w [(b1, lpA ⟨x.f0, x.f1, x.f2, x.f3, x.f4, x.n0, x.n1, x.n2, x.v, x.k0, k, x.k2, x.k3, x.no⟩, 55)] w4 from hk)
      clear hk
      (try simp only [Act.put, List.getElem_toArray, List.getElem_cons_succ, List.getElem_cons_zero, List.setIfInBounds_toArray, List.set_cons_zero, List.set_cons_succ])
      refine kb_alloc K4.out 62 (nil21) rfl z50 (by rfl) ?_
      intro b5 w5 hb5 hk
      have K5 := Lib.hid (show Kb w [(b1, lpA ⟨x.f0, x.f1, x.f2, x.f3, x.f4, x.n0, x.n1, x.n2, x.v, x.k0, k, x.k2, x.k3, x.no⟩, 55), (b5, nil21, 62)] w5 from hk)
      clear hk hb5
      (try simp only [Act.put, List.getElem_toArray, List.getElem_cons_succ, List.getElem_cons_zero, List.setIfInBounds_toArray, List.set_cons_zero, List.set_cons_succ])
      refine kb_row K5.out 1 rfl 62 _ _ (poA ⟨0, 0, false, 0, (IntKind.i64.wrap (Int.tmod (x.no : Nat) 16)), x.f4, x.f1, x.f0, x.f2, x.f3, (IntKind.i64.wrap (Int.tmod (x.n0 : Nat) 5)), (IntKind.i64.wrap (Int.tmod (x.n1 : Nat) 3)), m, (x.v.r : Nat), (x.v.c : Nat), (x.v.b : Nat), (x.v.p : Nat), x.k0, k, x.k2, x.k3⟩) rfl rfl rfl rfl (size50) (by rfl) (po_all _) ?_
      intro w6 hk
      have K6 := Lib.hid (show Kb w [(b1, lpA ⟨x.f0, x.f1, x.f2, x.f3, x.f4, x.n0, x.n1, x.n2, x.v, x.k0, k, x.k2, x.k3, x.no⟩, 55), (b5, poA ⟨0, 0, false, 0, (IntKind.i64.wrap (Int.tmod (x.no : Nat) 16)), x.f4, x.f1, x.f0, x.f2, x.f3, (IntKind.i64.wrap (Int.tmod (x.n0 : Nat) 5)), (IntKind.i64.wrap (Int.tmod (x.n1 : Nat) 3)), m, (x.v.r : Nat), (x.v.c : Nat), (x.v.b : Nat), (x.v.p : Nat), x.k0, k, x.k2, x.k3⟩, 62)] w6 from hk)
      clear hk
      (try simp only [Act.put, List.getElem_toArray, List.getElem_cons_succ, List.getElem_cons_zero, List.setIfInBounds_toArray, List.set_cons_zero, List.set_cons_succ])
      refine wpList_nil ?_
      go_upto_region 5 with fail
      refine wp_region_lit ?_
      refine wpList_val (.agg (poA ⟨0, 0, false, 0, (IntKind.i64.wrap (Int.tmod (x.no : Nat) 16)), x.f4, x.f1, x.f0, x.f2, x.f3, (IntKind.i64.wrap (Int.tmod (x.n0 : Nat) 5)), (IntKind.i64.wrap (Int.tmod (x.n1 : Nat) 3)), m, (x.v.r : Nat), (x.v.c : Nat), (x.v.b : Nat), (x.v.p : Nat), x.k0, k, x.k2, x.k3⟩)) (by rfl) (kb_all K6.out 1 rfl 62 _ rfl rfl Try.underlying62 rfl (size50)) ?_
      (try simp only [Act.put, List.getElem_toArray, List.getElem_cons_succ, List.getElem_cons_zero, List.setIfInBounds_toArray, List.set_cons_zero, List.set_cons_succ])
      refine kb_call K6.out 18 #[.agg (poA ⟨0, 0, false, 0, (IntKind.i64.wrap (Int.tmod (x.no : Nat) 16)), x.f4, x.f1, x.f0, x.f2, x.f3, (IntKind.i64.wrap (Int.tmod (x.n0 : Nat) 5)), (IntKind.i64.wrap (Int.tmod (x.n1 : Nat) 3)), m, (x.v.r : Nat), (x.v.c : Nat), (x.v.b : Nat), (x.v.p : Nat), x.k0, k, x.k2, x.k3⟩)] (.tuple #[.agg (poA ⟨0, 0, false, 0, (IntKind.i64.wrap (Int.tmod (x.no : Nat) 16)), x.f4, x.f1, x.f0, x.f2, x.f3, (IntKind.i64.wrap (Int.tmod (x.n0 : Nat) 5)), (IntKind.i64.wrap (Int.tmod (x.n1 : Nat) 3)), 0, 0, 0, 0, 0, 0, 0, x.k2, x.k3⟩), .bool true]) (by rfl) (by go_simp) (fade_is ⟨0, 0, false, 0, (IntKind.i64.wrap (Int.tmod (x.no : Nat) 16)), x.f4, x.f1, x.f0, x.f2, x.f3, (IntKind.i64.wrap (Int.tmod (x.n0 : Nat) 5)), (IntKind.i64.wrap (Int.tmod (x.n1 : Nat) 3)), m, (x.v.r : Nat), (x.v.c : Nat), (x.v.b : Nat), (x.v.p : Nat), x.k0, k, x.k2, x.k3⟩ ⟨0, 0, false, 0, (IntKind.i64.wrap (Int.tmod (x.no : Nat) 16)), x.f4, x.f1, x.f0, x.f2, x.f3, (IntKind.i64.wrap (Int.tmod (x.n0 : Nat) 5)), (IntKind.i64.wrap (Int.tmod (x.n1 : Nat) 3)), 0, 0, 0, 0, 0, 0, 0, x.k2, x.k3⟩ true (by unfold fadeP; rw [if_pos HI.out, if_neg HL.out]) (by simp [fadeB, HI.out, HL.out]) w6) ?_
      intro w7 hk
      have K7 := Lib.hid (show Kb w [(b1, lpA ⟨x.f0, x.f1, x.f2, x.f3, x.f4, x.n0, x.n1, x.n2, x.v, x.k0, k, x.k2, x.k3, x.no⟩, 55), (b5, poA ⟨0, 0, false, 0, (IntKind.i64.wrap (Int.tmod (x.no : Nat) 16)), x.f4, x.f1, x.f0, x.f2, x.f3, (IntKind.i64.wrap (Int.tmod (x.n0 : Nat) 5)), (IntKind.i64.wrap (Int.tmod (x.n1 : Nat) 3)), m, (x.v.r : Nat), (x.v.c : Nat), (x.v.b : Nat), (x.v.p : Nat), x.k0, k, x.k2, x.k3⟩, 62)] w7 from hk)
      clear hk
      (try simp only [Act.put, List.getElem_toArray, List.getElem_cons_succ, List.getElem_cons_zero, List.setIfInBounds_toArray, List.set_cons_zero, List.set_cons_succ])
      refine wpList_val (.tuple #[.agg (poA ⟨0, 0, false, 0, (IntKind.i64.wrap (Int.tmod (x.no : Nat) 16)), x.f4, x.f1, x.f0, x.f2, x.f3, (IntKind.i64.wrap (Int.tmod (x.n0 : Nat) 5)), (IntKind.i64.wrap (Int.tmod (x.n1 : Nat) 3)), 0, 0, 0, 0, 0, 0, 0, x.k2, x.k3⟩), .bool true]) (by rfl) (by go_simp) ?_
      (try simp only [Act.put, List.getElem_toArray, List.getElem_cons_succ, List.getElem_cons_zero, List.setIfInBounds_toArray, List.set_cons_zero, List.set_cons_succ])
      refine wpList_val (.agg (poA ⟨0, 0, false, 0, (IntKind.i64.wrap (Int.tmod (x.no : Nat) 16)), x.f4, x.f1, x.f0, x.f2, x.f3, (IntKind.i64.wrap (Int.tmod (x.n0 : Nat) 5)), (IntKind.i64.wrap (Int.tmod (x.n1 : Nat) 3)), 0, 0, 0, 0, 0, 0, 0, x.k2, x.k3⟩)) (by rfl) (by go_simp) ?_
      (try simp only [Act.put, List.getElem_toArray, List.getElem_cons_succ, List.getElem_cons_zero, List.setIfInBounds_toArray, List.set_cons_zero, List.set_cons_succ])
      refine wpList_val (.bool true) (by rfl) (by go_simp) ?_
      (try simp only [Act.put, List.getElem_toArray, List.getElem_cons_succ, List.getElem_cons_zero, List.setIfInBounds_toArray, List.set_cons_zero, List.set_cons_succ])
      refine kb_alloc K7.out 62 (nil21) rfl z50 (by rfl) ?_
      intro b8 w8 hb8 hk
      have K8 := Lib.hid (show Kb w [(b1, lpA ⟨x.f0, x.f1, x.f2, x.f3, x.f4, x.n0, x.n1, x.n2, x.v, x.k0, k, x.k2, x.k3, x.no⟩, 55), (b5, poA ⟨0, 0, false, 0, (IntKind.i64.wrap (Int.tmod (x.no : Nat) 16)), x.f4, x.f1, x.f0, x.f2, x.f3, (IntKind.i64.wrap (Int.tmod (x.n0 : Nat) 5)), (IntKind.i64.wrap (Int.tmod (x.n1 : Nat) 3)), m, (x.v.r : Nat), (x.v.c : Nat), (x.v.b : Nat), (x.v.p : Nat), x.k0, k, x.k2, x.k3⟩, 62), (b8, nil21, 62)] w8 from hk)
      clear hk hb8
      (try simp only [Act.put, List.getElem_toArray, List.getElem_cons_succ, List.getElem_cons_zero, List.setIfInBounds_toArray, List.set_cons_zero, List.set_cons_succ])
      refine kb_row K8.out 2 rfl 62 _ _ (poA ⟨0, 0, false, 0, (IntKind.i64.wrap (Int.tmod (x.no : Nat) 16)), x.f4, x.f1, x.f0, x.f2, x.f3, (IntKind.i64.wrap (Int.tmod (x.n0 : Nat) 5)), (IntKind.i64.wrap (Int.tmod (x.n1 : Nat) 3)), 0, 0, 0, 0, 0, 0, 0, x.k2, x.k3⟩) rfl rfl rfl rfl (size50) (by rfl) (po_all _) ?_
      intro w9 hk
      have K9 := Lib.hid (show Kb w [(b1, lpA ⟨x.f0, x.f1, x.f2, x.f3, x.f4, x.n0, x.n1, x.n2, x.v, x.k0, k, x.k2, x.k3, x.no⟩, 55), (b5, poA ⟨0, 0, false, 0, (IntKind.i64.wrap (Int.tmod (x.no : Nat) 16)), x.f4, x.f1, x.f0, x.f2, x.f3, (IntKind.i64.wrap (Int.tmod (x.n0 : Nat) 5)), (IntKind.i64.wrap (Int.tmod (x.n1 : Nat) 3)), m, (x.v.r : Nat), (x.v.c : Nat), (x.v.b : Nat), (x.v.p : Nat), x.k0, k, x.k2, x.k3⟩, 62), (b8, poA ⟨0, 0, false, 0, (IntKind.i64.wrap (Int.tmod (x.no : Nat) 16)), x.f4, x.f1, x.f0, x.f2, x.f3, (IntKind.i64.wrap (Int.tmod (x.n0 : Nat) 5)), (IntKind.i64.wrap (Int.tmod (x.n1 : Nat) 3)), 0, 0, 0, 0, 0, 0, 0, x.k2, x.k3⟩, 62)] w9 from hk)
      clear hk
      (try simp only [Act.put, List.getElem_toArray, List.getElem_cons_succ, List.getElem_cons_zero, List.setIfInBounds_toArray, List.set_cons_zero, List.set_cons_succ])
      refine wpList_val (.bool true) (by rfl) (by go_simp) ?_
      (try simp only [Act.put, List.getElem_toArray, List.getElem_cons_succ, List.getElem_cons_zero, List.setIfInBounds_toArray, List.set_cons_zero, List.set_cons_succ])
      refine wpList_nil ?_
      go_upto_region 6 with fail
      refine wp_region_lit ?_
      refine wpList_val (.pointer (some ⟨b5, 12, none⟩)) (by rfl) (by go_simp) ?_
      (try simp only [Act.put, List.getElem_toArray, List.getElem_cons_succ, List.getElem_cons_zero, List.setIfInBounds_toArray, List.set_cons_zero, List.set_cons_succ])
      refine wpList_val (.int .i64 m) (by rfl) (by have q : w9.cell? ⟨b5, 12, none⟩ = some (.int .i64 m) := K9.out.cell (i := 1) rfl (by rfl); go_simp) ?_
      (try simp only [Act.put, List.getElem_toArray, List.getElem_cons_succ, List.getElem_cons_zero, List.setIfInBounds_toArray, List.set_cons_zero, List.set_cons_succ])
      refine wpList_val (.bool false) (by rfl) (by have q := HI.out; go_simp) ?_
      (try simp only [Act.put, List.getElem_toArray, List.getElem_cons_succ, List.getElem_cons_zero, List.setIfInBounds_toArray, List.set_cons_zero, List.set_cons_succ])
      refine wpList_nil ?_
      go_upto_region 8 with fail
      refine wp_region_lit ?_
      refine wpList_val (.pointer (some ⟨b5, 18, none⟩)) (by rfl) (by go_simp) ?_
      (try simp only [Act.put, List.getElem_toArray, List.getElem_cons_succ, List.getElem_cons_zero, List.setIfInBounds_toArray, List.set_cons_zero, List.set_cons_succ])
      refine wpList_val (.int .i64 k) (by rfl) (by have q : w9.cell? ⟨b5, 18, none⟩ = some (.int .i64 k) := K9.out.cell (i := 1) rfl (by rfl); go_simp) ?_
      (try simp only [Act.put, List.getElem_toArray, List.getElem_cons_succ, List.getElem_cons_zero, List.setIfInBounds_toArray, List.set_cons_zero, List.set_cons_succ])
      refine wpList_val (.int .i64 k1) (by rfl) (by rw [HK1.out]; go_simp) ?_
      (try simp only [Act.put, List.getElem_toArray, List.getElem_cons_succ, List.getElem_cons_zero, List.setIfInBounds_toArray, List.set_cons_zero, List.set_cons_succ])
      refine wpList_val (.pointer (some ⟨b5, 18, none⟩)) (by rfl) (by go_simp) ?_
      (try simp only [Act.put, List.getElem_toArray, List.getElem_cons_succ, List.getElem_cons_zero, List.setIfInBounds_toArray, List.set_cons_zero, List.set_cons_succ])
      refine kb_set K9.out 1 rfl 3 _ _ 18 (.int .i64 k1) rfl (by rfl) rfl rfl (kb_run_set K9.out (i := 1) rfl 3 18 (.int .i64 k) (.int .i64 k1) (by rfl) (fun W h1 h2 => by go_simp)) (poA ⟨0, 0, false, 0, (IntKind.i64.wrap (Int.tmod (x.no : Nat) 16)), x.f4, x.f1, x.f0, x.f2, x.f3, (IntKind.i64.wrap (Int.tmod (x.n0 : Nat) 5)), (IntKind.i64.wrap (Int.tmod (x.n1 : Nat) 3)), m, (x.v.r : Nat), (x.v.c : Nat), (x.v.b : Nat), (x.v.p : Nat), x.k0, k1, x.k2, x.k3⟩) (by kernel_rfl) ?_
      intro w10 hk
      have K10 := Lib.hid (show Kb w [(b1, lpA ⟨x.f0, x.f1, x.f2, x.f3, x.f4, x.n0, x.n1, x.n2, x.v, x.k0, k, x.k2, x.k3, x.no⟩, 55), (b5, poA ⟨0, 0, false, 0, (IntKind.i64.wrap (Int.tmod (x.no : Nat) 16)), x.f4, x.f1, x.f0, x.f2, x.f3, (IntKind.i64.wrap (Int.tmod (x.n0 : Nat) 5)), (IntKind.i64.wrap (Int.tmod (x.n1 : Nat) 3)), m, (x.v.r : Nat), (x.v.c : Nat), (x.v.b : Nat), (x.v.p : Nat), x.k0, k1, x.k2, x.k3⟩, 62), (b8, poA ⟨0, 0, false, 0, (IntKind.i64.wrap (Int.tmod (x.no : Nat) 16)), x.f4, x.f1, x.f0, x.f2, x.f3, (IntKind.i64.wrap (Int.tmod (x.n0 : Nat) 5)), (IntKind.i64.wrap (Int.tmod (x.n1 : Nat) 3)), 0, 0, 0, 0, 0, 0, 0, x.k2, x.k3⟩, 62)] w10 from hk)
      clear hk
      (try simp only [Act.put, List.getElem_toArray, List.getElem_cons_succ, List.getElem_cons_zero, List.setIfInBounds_toArray, List.set_cons_zero, List.set_cons_succ])
      refine wpList_nil ?_
      go_upto_region 9 with fail
      refine wp_region_lit ?_
      refine wpList_val (.pointer (some ⟨b5, 18, none⟩)) (by rfl) (by go_simp) ?_
      (try simp only [Act.put, List.getElem_toArray, List.getElem_cons_succ, List.getElem_cons_zero, List.setIfInBounds_toArray, List.set_cons_zero, List.set_cons_succ])
      refine wpList_val (.int .i64 k1) (by rfl) (by have q : w10.cell? ⟨b5, 18, none⟩ = some (.int .i64 k1) := K10.out.cell (i := 1) rfl (by rfl); go_simp) ?_
      (try simp only [Act.put, List.getElem_toArray, List.getElem_cons_succ, List.getElem_cons_zero, List.setIfInBounds_toArray, List.set_cons_zero, List.set_cons_succ])
      refine wpList_val (.bool true) (by rfl) (by have q := HLE.out; go_simp) ?_
      (try simp only [Act.put, List.getElem_toArray, List.getElem_cons_succ, List.getElem_cons_zero, List.setIfInBounds_toArray, List.set_cons_zero, List.set_cons_succ])
      refine wpList_nil ?_
      go_upto_region 10 with fail
      refine wp_region_lit ?_
      refine wpList_val (.agg (nil4)) (by rfl) (run_build_of 44 [] rfl [] nil4 rfl (by kernel_rfl)) ?_
      (try simp only [Act.put, List.getElem_toArray, List.getElem_cons_succ, List.getElem_cons_zero, List.setIfInBounds_toArray, List.set_cons_zero, List.set_cons_succ])
      refine wpList_val (.pointer (some ⟨b5, 12, none⟩)) (by rfl) (by go_simp) ?_
      (try simp only [Act.put, List.getElem_toArray, List.getElem_cons_succ, List.getElem_cons_zero, List.setIfInBounds_toArray, List.set_cons_zero, List.set_cons_succ])
      refine kb_set K10.out 1 rfl 3 _ _ 12 (.int .i64 0) rfl (by rfl) rfl rfl (kb_run_set K10.out (i := 1) rfl 3 12 (.int .i64 m) (.int .i64 0) (by rfl) (fun W h1 h2 => by go_simp)) (poA ⟨0, 0, false, 0, (IntKind.i64.wrap (Int.tmod (x.no : Nat) 16)), x.f4, x.f1, x.f0, x.f2, x.f3, (IntKind.i64.wrap (Int.tmod (x.n0 : Nat) 5)), (IntKind.i64.wrap (Int.tmod (x.n1 : Nat) 3)), 0, (x.v.r : Nat), (x.v.c : Nat), (x.v.b : Nat), (x.v.p : Nat), x.k0, k1, x.k2, x.k3⟩) (by kernel_rfl) ?_
      intro w11 hk
      have K11 := Lib.hid (show Kb w [(b1, lpA ⟨x.f0, x.f1, x.f2, x.f3, x.f4, x.n0, x.n1, x.n2, x.v, x.k0, k, x.k2, x.k3, x.no⟩, 55), (b5, poA ⟨0, 0, false, 0, (IntKind.i64.wrap (Int.tmod (x.no : Nat) 16)), x.f4, x.f1, x.f0, x.f2, x.f3, (IntKind.i64.wrap (Int.tmod (x.n0 : Nat) 5)), (IntKind.i64.wrap (Int.tmod (x.n1 : Nat) 3)), 0, (x.v.r : Nat), (x.v.c : Nat), (x.v.b : Nat), (x.v.p : Nat), x.k0, k1, x.k2, x.k3⟩, 62), (b8, poA ⟨0, 0, false, 0, (IntKind.i64.wrap (Int.tmod (x.no : Nat) 16)), x.f4, x.f1, x.f0, x.f2, x.f3, (IntKind.i64.wrap (Int.tmod (x.n0 : Nat) 5)), (IntKind.i64.wrap (Int.tmod (x.n1 : Nat) 3)), 0, 0, 0, 0, 0, 0, 0, x.k2, x.k3⟩, 62)] w11 from hk)
      clear hk
      (try simp only [Act.put, List.getElem_toArray, List.getElem_cons_succ, List.getElem_cons_zero, List.setIfInBounds_toArray, List.set_cons_zero, List.set_cons_succ])
      refine wpList_val (.pointer (some ⟨b5, 13, none⟩)) (by rfl) (by go_simp) ?_
      (try simp only [Act.put, List.getElem_toArray, List.getElem_cons_succ, List.getElem_cons_zero, List.setIfInBounds_toArray, List.set_cons_zero, List.set_cons_succ])
      refine kb_mid K11.out 1 rfl 44 _ _ 13 (nil4) rfl rfl rfl rfl (sizeV) (Nat.le_of_ble_eq_true (by kernel_rfl)) (by kernel_rfl) (poA ⟨0, 0, false, 0, (IntKind.i64.wrap (Int.tmod (x.no : Nat) 16)), x.f4, x.f1, x.f0, x.f2, x.f3, (IntKind.i64.wrap (Int.tmod (x.n0 : Nat) 5)), (IntKind.i64.wrap (Int.tmod (x.n1 : Nat) 3)), 0, 0, 0, 0, 0, x.k0, k1, x.k2, x.k3⟩) (by kernel_rfl) ?_
      intro w12 hk
      have K12 := Lib.hid (show Kb w [(b1, lpA ⟨x.f0, x.f1, x.f2, x.f3, x.f4, x.n0, x.n1, x.n2, x.v, x.k0, k, x.k2, x.k3, x.no⟩, 55), (b5, poA ⟨0, 0, false, 0, (IntKind.i64.wrap (Int.tmod (x.no : Nat) 16)), x.f4, x.f1, x.f0, x.f2, x.f3, (IntKind.i64.wrap (Int.tmod (x.n0 : Nat) 5)), (IntKind.i64.wrap (Int.tmod (x.n1 : Nat) 3)), 0, 0, 0, 0, 0, x.k0, k1, x.k2, x.k3⟩, 62), (b8, poA ⟨0, 0, false, 0, (IntKind.i64.wrap (Int.tmod (x.no : Nat) 16)), x.f4, x.f1, x.f0, x.f2, x.f3, (IntKind.i64.wrap (Int.tmod (x.n0 : Nat) 5)), (IntKind.i64.wrap (Int.tmod (x.n1 : Nat) 3)), 0, 0, 0, 0, 0, 0, 0, x.k2, x.k3⟩, 62)] w12 from hk)
      clear hk
      (try simp only [Act.put, List.getElem_toArray, List.getElem_cons_succ, List.getElem_cons_zero, List.setIfInBounds_toArray, List.set_cons_zero, List.set_cons_succ])
      refine wpList_val (.pointer (some ⟨b5, 17, none⟩)) (by rfl) (by go_simp) ?_
      (try simp only [Act.put, List.getElem_toArray, List.getElem_cons_succ, List.getElem_cons_zero, List.setIfInBounds_toArray, List.set_cons_zero, List.set_cons_succ])
      refine kb_set K12.out 1 rfl 3 _ _ 17 (.int .i64 0) rfl (by rfl) rfl rfl (kb_run_set K12.out (i := 1) rfl 3 17 (.int .i64 x.k0) (.int .i64 0) (by rfl) (fun W h1 h2 => by go_simp)) (poA ⟨0, 0, false, 0, (IntKind.i64.wrap (Int.tmod (x.no : Nat) 16)), x.f4, x.f1, x.f0, x.f2, x.f3, (IntKind.i64.wrap (Int.tmod (x.n0 : Nat) 5)), (IntKind.i64.wrap (Int.tmod (x.n1 : Nat) 3)), 0, 0, 0, 0, 0, 0, k1, x.k2, x.k3⟩) (by kernel_rfl) ?_
      intro w13 hk
      have K13 := Lib.hid (show Kb w [(b1, lpA ⟨x.f0, x.f1, x.f2, x.f3, x.f4, x.n0, x.n1, x.n2, x.v, x.k0, k, x.k2, x.k3, x.no⟩, 55), (b5, poA ⟨0, 0, false, 0, (IntKind.i64.wrap (Int.tmod (x.no : Nat) 16)), x.f4, x.f1, x.f0, x.f2, x.f3, (IntKind.i64.wrap (Int.tmod (x.n0 : Nat) 5)), (IntKind.i64.wrap (Int.tmod (x.n1 : Nat) 3)), 0, 0, 0, 0, 0, 0, k1, x.k2, x.k3⟩, 62), (b8, poA ⟨0, 0, false, 0, (IntKind.i64.wrap (Int.tmod (x.no : Nat) 16)), x.f4, x.f1, x.f0, x.f2, x.f3, (IntKind.i64.wrap (Int.tmod (x.n0 : Nat) 5)), (IntKind.i64.wrap (Int.tmod (x.n1 : Nat) 3)), 0, 0, 0, 0, 0, 0, 0, x.k2, x.k3⟩, 62)] w13 from hk)
      clear hk
      (try simp only [Act.put, List.getElem_toArray, List.getElem_cons_succ, List.getElem_cons_zero, List.setIfInBounds_toArray, List.set_cons_zero, List.set_cons_succ])
      refine wpList_val (.pointer (some ⟨b5, 18, none⟩)) (by rfl) (by go_simp) ?_
      (try simp only [Act.put, List.getElem_toArray, List.getElem_cons_succ, List.getElem_cons_zero, List.setIfInBounds_toArray, List.set_cons_zero, List.set_cons_succ])
      refine kb_set K13.out 1 rfl 3 _ _ 18 (.int .i64 0) rfl (by rfl) rfl rfl (kb_run_set K13.out (i := 1) rfl 3 18 (.int .i64 k1) (.int .i64 0) (by rfl) (fun W h1 h2 => by go_simp)) (poA ⟨0, 0, false, 0, (IntKind.i64.wrap (Int.tmod (x.no : Nat) 16)), x.f4, x.f1, x.f0, x.f2, x.f3, (IntKind.i64.wrap (Int.tmod (x.n0 : Nat) 5)), (IntKind.i64.wrap (Int.tmod (x.n1 : Nat) 3)), 0, 0, 0, 0, 0, 0, 0, x.k2, x.k3⟩) (by kernel_rfl) ?_
      intro w14 hk
      have K14 := Lib.hid (show Kb w [(b1, lpA ⟨x.f0, x.f1, x.f2, x.f3, x.f4, x.n0, x.n1, x.n2, x.v, x.k0, k, x.k2, x.k3, x.no⟩, 55), (b5, poA ⟨0, 0, false, 0, (IntKind.i64.wrap (Int.tmod (x.no : Nat) 16)), x.f4, x.f1, x.f0, x.f2, x.f3, (IntKind.i64.wrap (Int.tmod (x.n0 : Nat) 5)), (IntKind.i64.wrap (Int.tmod (x.n1 : Nat) 3)), 0, 0, 0, 0, 0, 0, 0, x.k2, x.k3⟩, 62), (b8, poA ⟨0, 0, false, 0, (IntKind.i64.wrap (Int.tmod (x.no : Nat) 16)), x.f4, x.f1, x.f0, x.f2, x.f3, (IntKind.i64.wrap (Int.tmod (x.n0 : Nat) 5)), (IntKind.i64.wrap (Int.tmod (x.n1 : Nat) 3)), 0, 0, 0, 0, 0, 0, 0, x.k2, x.k3⟩, 62)] w14 from hk)
      clear hk
      (try simp only [Act.put, List.getElem_toArray, List.getElem_cons_succ, List.getElem_cons_zero, List.setIfInBounds_toArray, List.set_cons_zero, List.set_cons_succ])
      refine wpList_nil ?_
      go_upto_region 11 with fail
      refine wp_region_lit ?_
      refine wpList_val (.bool true) (by rfl) (by go_simp) ?_
      (try simp only [Act.put, List.getElem_toArray, List.getElem_cons_succ, List.getElem_cons_zero, List.setIfInBounds_toArray, List.set_cons_zero, List.set_cons_succ])
      refine wpList_val (.bool true) (by rfl) (by go_simp) ?_
      (try simp only [Act.put, List.getElem_toArray, List.getElem_cons_succ, List.getElem_cons_zero, List.setIfInBounds_toArray, List.set_cons_zero, List.set_cons_succ])
      refine wpList_val (.agg (poA ⟨0, 0, false, 0, (IntKind.i64.wrap (Int.tmod (x.no : Nat) 16)), x.f4, x.f1, x.f0, x.f2, x.f3, (IntKind.i64.wrap (Int.tmod (x.n0 : Nat) 5)), (IntKind.i64.wrap (Int.tmod (x.n1 : Nat) 3)), 0, 0, 0, 0, 0, 0, 0, x.k2, x.k3⟩)) (by rfl) (kb_all K14.out 2 rfl 62 _ rfl rfl Try.underlying62 rfl (size50)) ?_
      (try simp only [Act.put, List.getElem_toArray, List.getElem_cons_succ, List.getElem_cons_zero, List.setIfInBounds_toArray, List.set_cons_zero, List.set_cons_succ])
      refine wpList_val (.agg (poA ⟨0, 0, false, 0, (IntKind.i64.wrap (Int.tmod (x.no : Nat) 16)), x.f4, x.f1, x.f0, x.f2, x.f3, (IntKind.i64.wrap (Int.tmod (x.n0 : Nat) 5)), (IntKind.i64.wrap (Int.tmod (x.n1 : Nat) 3)), 0, 0, 0, 0, 0, 0, 0, x.k2, x.k3⟩)) (by rfl) (kb_all K14.out 1 rfl 62 _ rfl rfl Try.underlying62 rfl (size50)) ?_
      (try simp only [Act.put, List.getElem_toArray, List.getElem_cons_succ, List.getElem_cons_zero, List.setIfInBounds_toArray, List.set_cons_zero, List.set_cons_succ])
      refine wpList_val (.bool true) (by rfl) (by have q := eq_po ⟨0, 0, false, 0, (IntKind.i64.wrap (Int.tmod (x.no : Nat) 16)), x.f4, x.f1, x.f0, x.f2, x.f3, (IntKind.i64.wrap (Int.tmod (x.n0 : Nat) 5)), (IntKind.i64.wrap (Int.tmod (x.n1 : Nat) 3)), 0, 0, 0, 0, 0, 0, 0, x.k2, x.k3⟩; go_simp) ?_
      (try simp only [Act.put, List.getElem_toArray, List.getElem_cons_succ, List.getElem_cons_zero, List.setIfInBounds_toArray, List.set_cons_zero, List.set_cons_succ])
      refine wpList_val (.bool true) (by rfl) (run_pick_yes (.tmp 44) (.tmp 47) (.const (.bool false)) _ rfl rfl rfl) ?_
      (try simp only [Act.put, List.getElem_toArray, List.getElem_cons_succ, List.getElem_cons_zero, List.setIfInBounds_toArray, List.set_cons_zero, List.set_cons_succ])
      refine wpList_val (.bool true) (by rfl) (by go_simp) ?_
      (try simp only [Act.put, List.getElem_toArray, List.getElem_cons_succ, List.getElem_cons_zero, List.setIfInBounds_toArray, List.set_cons_zero, List.set_cons_succ])
      refine wpList_nil ?_
      go_wp2_with fail
      go_ret
      exact ⟨ret_bool (rfl), K14.out.below⟩
end Go.Proofs.Ytojijeaofkndpaa
