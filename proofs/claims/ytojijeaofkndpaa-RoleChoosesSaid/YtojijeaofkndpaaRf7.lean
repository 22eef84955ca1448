/- RoleChooses. -/
import Derived.Test.YtojijeaofkndpaaRf5
import Derived.Test.YtojijeaofkndpaaRf6
namespace Go.Proofs.Ytojijeaofkndpaa
open Go.RowKit
attribute [local irreducible] wpQuiet wpList
set_option linter.unusedSimpArgs false
set_option linter.unusedVariables false

set_option maxRecDepth 100000 in
set_option maxHeartbeats 8000000 in
theorem chooses_law (self : Nat) (l : List Rp) (n m : Nat) (a : Option Addr) (w : World) (hl : l.length = n) (hnm : n ≤ m ∧ m ≤ maxLen) (hr : RowsAt w a 8 lqC l) (hok : ∀ x ∈ l, x.ok) :
    Calls Try.prog 3 #[.int .u64 (self : Nat), .slice a n m] w fun e w' => e = .returned (.bool true) ∧ Below w.heap.size w w' := by
  have CP := Lib.hid (fun W (hW : Below w.heap.size w W) => ports_any l n m a W hl hnm (hr.same hW))
  have OKL := Lib.hid (show ∀ x ∈ l.take 16, x.ok from fun x hx => hok x (List.mem_of_mem_take hx))
  obtain ⟨L, hL⟩ : ∃ L, L = l.take 16 := ⟨_, rfl⟩
  rw [← hL] at CP OKL
  have HN := Lib.hid (show L.length ≤ 16 by rw [hL, List.length_take]; omega)
  clear hL hl hnm hr hok
  have K := Lib.hid (Kb.nil w)
  go_enter Try.func3, Try.ntmps3
  go_upto_region 0 with fail
  refine wp_region_lit ?_
  refine wpList_val (.bool false) (by rfl) (by go_simp) ?_
  (try simp only [Act.put, List.getElem_toArray, List.getElem_cons_succ, List.getElem_cons_zero, List.setIfInBounds_toArray, List.set_cons_zero, List.set_cons_succ])
  refine wpList_nil ?_
  go_upto_region 1 with fail
  refine wp_region_lit ?_
  refine kb_call K.out 9 #[] (.bool true) (by rfl) (by go_simp) (speaks15_any w) ?_
  intro w1 hk
  have K1 := Lib.hid (show Kb w [] w1 from hk)
  clear hk
  (try simp only [Act.put, List.getElem_toArray, List.getElem_cons_succ, List.getElem_cons_zero, List.setIfInBounds_toArray, List.set_cons_zero, List.set_cons_succ])
  refine wpList_val (.bool false) (by rfl) (by go_simp) ?_
  (try simp only [Act.put, List.getElem_toArray, List.getElem_cons_succ, List.getElem_cons_zero, List.setIfInBounds_toArray, List.set_cons_zero, List.set_cons_succ])
  refine wpList_nil ?_
  go_upto_region 3 with fail
  refine wp_region_lit ?_
  refine wpList_val (.slice a n m) (by rfl) (by go_simp) ?_
  (try simp only [Act.put, List.getElem_toArray, List.getElem_cons_succ, List.getElem_cons_zero, List.setIfInBounds_toArray, List.set_cons_zero, List.set_cons_succ])
  refine wpList_callx 10 #[.slice a n m] (fun v w' => ∃ u1 u2, v = .tuple #[u1, u2] ∧ Own w' w1.heap.size 47 8 rpC u1 L ∧ Own w' w1.heap.size 77 8 rpC u2 L ∧ Below w1.heap.size w1 w') (by rfl) (by go_simp) ((CP.out w1 K1.out.below).mono fun e w' ⟨u1, u2, q1, q2, q3, q4⟩ => ⟨_, q1, u1, u2, rfl, q2, q3, q4⟩) ?_
  rintro v wa ⟨u1, u2, rfl, oA, oB, hbA⟩
  (try simp only [Act.put, List.getElem_toArray, List.getElem_cons_succ, List.getElem_cons_zero, List.setIfInBounds_toArray, List.set_cons_zero, List.set_cons_succ])
  obtain ⟨a5, c5, e5, -, -⟩ := oA.shape
  obtain ⟨a6, c6, e6, -, -⟩ := oB.shape
  subst e5 e6
  obtain ⟨n2, hn2⟩ : ∃ n2, n2 = L.length := ⟨_, rfl⟩
  rw [← hn2] at oA oB HN ⊢
  have H2 := Lib.hid hn2
  have OA := Lib.hid oA
  have OB := Lib.hid oB
  have BA := Lib.hid (show Below w.heap.size w wa from K1.out.below.trans (hbA.mono K1.out.below.size))
  clear oA oB hbA hn2 CP
  have CC := Lib.hid (choose_any self L n2 c5 a5 wa _ H2.out.symm (by have := HN.out; omega) OA.out OKL.out)
  have CD := Lib.hid (fun W (hW : Below wa.heap.size wa W) => rchoose_any self L n2 c6 a6 W _ H2.out.symm (by have := HN.out; omega) (OB.out.next hW) OKL.out)
  obtain ⟨R, hR⟩ : ∃ R, R = rootN self (bestU self L n2) := ⟨_, rfl⟩
  obtain ⟨C, hC⟩ : ∃ C, C = costN self (bestU self L n2) := ⟨_, rfl⟩
  obtain ⟨P, hP⟩ : ∃ P, P = portN self (bestU self L n2) := ⟨_, rfl⟩
  rw [← hR, ← hC, ← hP] at CC CD
  clear hR hC hP OKL
  have KA := Lib.hid (Kb.nil wa)
  refine wpList_val (.tuple #[.slice a5 n2 c5, .slice a6 n2 c6]) (by rfl) (by go_simp) ?_
  (try simp only [Act.put, List.getElem_toArray, List.getElem_cons_succ, List.getElem_cons_zero, List.setIfInBounds_toArray, List.set_cons_zero, List.set_cons_succ])
  refine wpList_val (.slice a5 n2 c5) (by rfl) (by go_simp) ?_
  (try simp only [Act.put, List.getElem_toArray, List.getElem_cons_succ, List.getElem_cons_zero, List.setIfInBounds_toArray, List.set_cons_zero, List.set_cons_succ])
  refine wpList_val (.slice a6 n2 c6) (by rfl) (by go_simp) ?_
  (try simp only [Act.put, List.getElem_toArray, List.getElem_cons_succ, List.getElem_cons_zero, List.setIfInBounds_toArray, List.set_cons_zero, List.set_cons_succ])
  refine wpList_val (.slice a5 n2 c5) (by rfl) (by go_simp) ?_
  (try simp only [Act.put, List.getElem_toArray, List.getElem_cons_succ, List.getElem_cons_zero, List.setIfInBounds_toArray, List.set_cons_zero, List.set_cons_succ])
  refine wpList_val (.slice a6 n2 c6) (by rfl) (by go_simp) ?_
  (try simp only [Act.put, List.getElem_toArray, List.getElem_cons_succ, List.getElem_cons_zero, List.setIfInBounds_toArray, List.set_cons_zero, List.set_cons_succ])
  refine wpList_nil ?_
  go_upto_region 4 with fail
  refine wp_region_lit ?_
  refine wpList_val (.int .u64 (self : Nat)) (by rfl) (by go_simp) ?_
  (try simp only [Act.put, List.getElem_toArray, List.getElem_cons_succ, List.getElem_cons_zero, List.setIfInBounds_toArray, List.set_cons_zero, List.set_cons_succ])
  refine wpList_val (.slice a5 n2 c5) (by rfl) (by go_simp) ?_
  (try simp only [Act.put, List.getElem_toArray, List.getElem_cons_succ, List.getElem_cons_zero, List.setIfInBounds_toArray, List.set_cons_zero, List.set_cons_succ])
  refine wpList_callx 11 #[.int .u64 (self : Nat), .slice a5 n2 c5] (fun v w' => ∃ u1 u2, v = .agg (chA R C P u1 u2) ∧ Own w' wa.heap.size 3 1 inC u1 (rolesE self R C P L n2) ∧ Own w' wa.heap.size 44 4 vcC u2 (tellsK self R C L n2) ∧ Below wa.heap.size wa w') (by rfl) (by go_simp) (CC.out.mono fun e w' ⟨u1, u2, q1, q2, q3, q4⟩ => ⟨_, q1, u1, u2, rfl, q2, q3, q4⟩) ?_
  rintro v wb ⟨v1, v2, rfl, o1, o2, hbB⟩
  (try simp only [Act.put, List.getElem_toArray, List.getElem_cons_succ, List.getElem_cons_zero, List.setIfInBounds_toArray, List.set_cons_zero, List.set_cons_succ])
  have LE := Lib.hid (show (rolesE self R C P L n2).length = n2 from rolesE_len H2.out.symm)
  have LT := Lib.hid (show (tellsK self R C L n2).length = n2 from tk_len _ (by rw [← H2.out]; omega))
  obtain ⟨a1, c1, e1, -, -⟩ := o1.shape
  obtain ⟨a2, c2, e2, -, -⟩ := o2.shape
  subst e1 e2
  rw [LE.out] at o1 ⊢
  rw [LT.out] at o2 ⊢
  have O1 := Lib.hid o1
  have O2 := Lib.hid o2
  have BB := Lib.hid hbB
  clear o1 o2 hbB CC
  have KB := Lib.hid (Kb.nil wb)
  refine wpList_val (.int .u64 (self : Nat)) (by rfl) (by go_simp) ?_
  (try simp only [Act.put, List.getElem_toArray, List.getElem_cons_succ, List.getElem_cons_zero, List.setIfInBounds_toArray, List.set_cons_zero, List.set_cons_succ])
  refine wpList_val (.slice a6 n2 c6) (by rfl) (by go_simp) ?_
  (try simp only [Act.put, List.getElem_toArray, List.getElem_cons_succ, List.getElem_cons_zero, List.setIfInBounds_toArray, List.set_cons_zero, List.set_cons_succ])
  refine wpList_callx 12 #[.int .u64 (self : Nat), .slice a6 n2 c6] (fun v w' => ∃ u1 u2, v = .agg (chA R C P u1 u2) ∧ Own w' wb.heap.size 3 1 inC u1 (rolesE self R C P L n2) ∧ Own w' wb.heap.size 42 4 vcC u2 (tellsK self R C L n2) ∧ Below wb.heap.size wb w') (by rfl) (by go_simp) ((CD.out wb BB.out).mono fun e w' ⟨u1, u2, q1, q2, q3, q4⟩ => ⟨_, q1, u1, u2, rfl, q2, q3, q4⟩) ?_
  rintro v wc ⟨v3, v4, rfl, o3, o4, hbC⟩
  (try simp only [Act.put, List.getElem_toArray, List.getElem_cons_succ, List.getElem_cons_zero, List.setIfInBounds_toArray, List.set_cons_zero, List.set_cons_succ])
  obtain ⟨a3, c3, e3, -, -⟩ := o3.shape
  obtain ⟨a4, c4, e4, -, -⟩ := o4.shape
  subst e3 e4
  rw [LE.out] at o3 ⊢
  rw [LT.out] at o4 ⊢
  have O3 := Lib.hid o3
  have O4 := Lib.hid o4
  have BC := Lib.hid hbC
  clear o3 o4 hbC CD
  have KC := Lib.hid (Kb.nil wc)
  refine kb_alloc KC.out 34 (nilCh) rfl z34c (by rfl) ?_
  intro b4 w4 hb4 hk
  have K4 := Lib.hid (show Kb wc [(b4, nilCh, 34)] w4 from hk)
  clear hk hb4
  (try simp only [Act.put, List.getElem_toArray, List.getElem_cons_succ, List.getElem_cons_zero, List.setIfInBounds_toArray, List.set_cons_zero, List.set_cons_succ])
  refine kb_alloc K4.out 38 (nilCh) rfl z38 (by rfl) ?_
  intro b5 w5 hb5 hk
  have K5 := Lib.hid (show Kb wc [(b4, nilCh, 34), (b5, nilCh, 38)] w5 from hk)
  clear hk hb5
  (try simp only [Act.put, List.getElem_toArray, List.getElem_cons_succ, List.getElem_cons_zero, List.setIfInBounds_toArray, List.set_cons_zero, List.set_cons_succ])
  refine kb_row K5.out 0 rfl 34 _ _ (chA R C P (.slice a1 n2 c1) (.slice a2 n2 c2)) rfl rfl rfl rfl (size34c) (by rfl) (by kernel_rfl) ?_
  intro w6 hk
  have K6 := Lib.hid (show Kb wc [(b4, chA R C P (.slice a1 n2 c1) (.slice a2 n2 c2), 34), (b5, nilCh, 38)] w6 from hk)
  clear hk
  (try simp only [Act.put, List.getElem_toArray, List.getElem_cons_succ, List.getElem_cons_zero, List.setIfInBounds_toArray, List.set_cons_zero, List.set_cons_succ])
  refine kb_row K6.out 1 rfl 38 _ _ (chA R C P (.slice a3 n2 c3) (.slice a4 n2 c4)) rfl rfl rfl rfl (size38) (by rfl) (by kernel_rfl) ?_
  intro w7 hk
  have K7 := Lib.hid (show Kb wc [(b4, chA R C P (.slice a1 n2 c1) (.slice a2 n2 c2), 34), (b5, chA R C P (.slice a3 n2 c3) (.slice a4 n2 c4), 38)] w7 from hk)
  clear hk
  (try simp only [Act.put, List.getElem_toArray, List.getElem_cons_succ, List.getElem_cons_zero, List.setIfInBounds_toArray, List.set_cons_zero, List.set_cons_succ])
  refine wpList_nil ?_
  go_upto_region 5 with fail
  rename_i KR7 hKR7 KRZ hKRZ
  have HK7 := Lib.hid hKR7
  clear hKR7
  refine wp_region_lit ?_
  refine wpList_val (.pointer (some ⟨b4, 0, none⟩)) (by rfl) (by go_simp) ?_
  (try simp only [Act.put, List.getElem_toArray, List.getElem_cons_succ, List.getElem_cons_zero, List.setIfInBounds_toArray, List.set_cons_zero, List.set_cons_succ])
  refine wpList_val (.int .u64 (R : Nat)) (by rfl) (by have q : w7.cell? ⟨b4, 0, none⟩ = some (.int .u64 (R : Nat)) := K7.out.cell (i := 0) rfl (by rfl); go_simp) ?_
  (try simp only [Act.put, List.getElem_toArray, List.getElem_cons_succ, List.getElem_cons_zero, List.setIfInBounds_toArray, List.set_cons_zero, List.set_cons_succ])
  refine wpList_val (.pointer (some ⟨b5, 0, none⟩)) (by rfl) (by go_simp) ?_
  (try simp only [Act.put, List.getElem_toArray, List.getElem_cons_succ, List.getElem_cons_zero, List.setIfInBounds_toArray, List.set_cons_zero, List.set_cons_succ])
  refine wpList_val (.int .u64 (R : Nat)) (by rfl) (by have q : w7.cell? ⟨b5, 0, none⟩ = some (.int .u64 (R : Nat)) := K7.out.cell (i := 1) rfl (by rfl); go_simp) ?_
  (try simp only [Act.put, List.getElem_toArray, List.getElem_cons_succ, List.getElem_cons_zero, List.setIfInBounds_toArray, List.set_cons_zero, List.set_cons_succ])
  refine wpList_val (.bool false) (by rfl) (by go_simp) ?_
  (try simp only [Act.put, List.getElem_toArray, List.getElem_cons_succ, List.getElem_cons_zero, List.setIfInBounds_toArray, List.set_cons_zero, List.set_cons_succ])
  refine wpList_val (.bool false) (by rfl) (by go_simp) ?_
  (try simp only [Act.put, List.getElem_toArray, List.getElem_cons_succ, List.getElem_cons_zero, List.setIfInBounds_toArray, List.set_cons_zero, List.set_cons_succ])
  refine wpList_val (.pointer (some ⟨b4, 1, none⟩)) (by rfl) (by go_simp) ?_
  (try simp only [Act.put, List.getElem_toArray, List.getElem_cons_succ, List.getElem_cons_zero, List.setIfInBounds_toArray, List.set_cons_zero, List.set_cons_succ])
  refine wpList_val (.int .u32 (C : Nat)) (by rfl) (by have q : w7.cell? ⟨b4, 1, none⟩ = some (.int .u32 (C : Nat)) := K7.out.cell (i := 0) rfl (by rfl); go_simp) ?_
  (try simp only [Act.put, List.getElem_toArray, List.getElem_cons_succ, List.getElem_cons_zero, List.setIfInBounds_toArray, List.set_cons_zero, List.set_cons_succ])
  refine wpList_val (.pointer (some ⟨b5, 1, none⟩)) (by rfl) (by go_simp) ?_
  (try simp only [Act.put, List.getElem_toArray, List.getElem_cons_succ, List.getElem_cons_zero, List.setIfInBounds_toArray, List.set_cons_zero, List.set_cons_succ])
  refine wpList_val (.int .u32 (C : Nat)) (by rfl) (by have q : w7.cell? ⟨b5, 1, none⟩ = some (.int .u32 (C : Nat)) := K7.out.cell (i := 1) rfl (by rfl); go_simp) ?_
  (try simp only [Act.put, List.getElem_toArray, List.getElem_cons_succ, List.getElem_cons_zero, List.setIfInBounds_toArray, List.set_cons_zero, List.set_cons_succ])
  refine wpList_val (.bool false) (by rfl) (by go_simp) ?_
  (try simp only [Act.put, List.getElem_toArray, List.getElem_cons_succ, List.getElem_cons_zero, List.setIfInBounds_toArray, List.set_cons_zero, List.set_cons_succ])
  refine wpList_val (.bool false) (by rfl) (run_pick_no (.tmp 29) (.const (.bool true)) (.tmp 34) _ rfl rfl rfl) ?_
  (try simp only [Act.put, List.getElem_toArray, List.getElem_cons_succ, List.getElem_cons_zero, List.setIfInBounds_toArray, List.set_cons_zero, List.set_cons_succ])
  refine wpList_val (.bool false) (by rfl) (by go_simp) ?_
  (try simp only [Act.put, List.getElem_toArray, List.getElem_cons_succ, List.getElem_cons_zero, List.setIfInBounds_toArray, List.set_cons_zero, List.set_cons_succ])
  refine wpList_val (.pointer (some ⟨b4, 2, none⟩)) (by rfl) (by go_simp) ?_
  (try simp only [Act.put, List.getElem_toArray, List.getElem_cons_succ, List.getElem_cons_zero, List.setIfInBounds_toArray, List.set_cons_zero, List.set_cons_succ])
  refine wpList_val (.int .i64 P) (by rfl) (by have q : w7.cell? ⟨b4, 2, none⟩ = some (.int .i64 P) := K7.out.cell (i := 0) rfl (by rfl); go_simp) ?_
  (try simp only [Act.put, List.getElem_toArray, List.getElem_cons_succ, List.getElem_cons_zero, List.setIfInBounds_toArray, List.set_cons_zero, List.set_cons_succ])
  refine wpList_val (.pointer (some ⟨b5, 2, none⟩)) (by rfl) (by go_simp) ?_
  (try simp only [Act.put, List.getElem_toArray, List.getElem_cons_succ, List.getElem_cons_zero, List.setIfInBounds_toArray, List.set_cons_zero, List.set_cons_succ])
  refine wpList_val (.int .i64 P) (by rfl) (by have q : w7.cell? ⟨b5, 2, none⟩ = some (.int .i64 P) := K7.out.cell (i := 1) rfl (by rfl); go_simp) ?_
  (try simp only [Act.put, List.getElem_toArray, List.getElem_cons_succ, List.getElem_cons_zero, List.setIfInBounds_toArray, List.set_cons_zero, List.set_cons_succ])
  refine wpList_val (.bool false) (by rfl) (by go_simp) ?_
  (try simp only [Act.put, List.getElem_toArray, List.getElem_cons_succ, List.getElem_cons_zero, List.setIfInBounds_toArray, List.set_cons_zero, List.set_cons_succ])
  refine wpList_val (.bool false) (by rfl) (run_pick_no (.tmp 36) (.const (.bool true)) (.tmp 41) _ rfl rfl rfl) ?_
  (try simp only [Act.put, List.getElem_toArray, List.getElem_cons_succ, List.getElem_cons_zero, List.setIfInBounds_toArray, List.set_cons_zero, List.set_cons_succ])
  refine wpList_val (.bool false) (by rfl) (by go_simp) ?_
  (try simp only [Act.put, List.getElem_toArray, List.getElem_cons_succ, List.getElem_cons_zero, List.setIfInBounds_toArray, List.set_cons_zero, List.set_cons_succ])
  refine wpList_val (.pointer (some ⟨b4, 3, none⟩)) (by rfl) (by go_simp) ?_
  (try simp only [Act.put, List.getElem_toArray, List.getElem_cons_succ, List.getElem_cons_zero, List.setIfInBounds_toArray, List.set_cons_zero, List.set_cons_succ])
  refine wpList_val (.slice a1 n2 c1) (by rfl) (by have q : w7.cell? ⟨b4, 3, none⟩ = some (.slice a1 n2 c1) := K7.out.cell (i := 0) rfl (by rfl); go_simp) ?_
  (try simp only [Act.put, List.getElem_toArray, List.getElem_cons_succ, List.getElem_cons_zero, List.setIfInBounds_toArray, List.set_cons_zero, List.set_cons_succ])
  refine wpList_val (.int .i64 (n2 : Nat)) (by rfl) (by go_simp) ?_
  (try simp only [Act.put, List.getElem_toArray, List.getElem_cons_succ, List.getElem_cons_zero, List.setIfInBounds_toArray, List.set_cons_zero, List.set_cons_succ])
  refine wpList_val (.pointer (some ⟨b5, 3, none⟩)) (by rfl) (by go_simp) ?_
  (try simp only [Act.put, List.getElem_toArray, List.getElem_cons_succ, List.getElem_cons_zero, List.setIfInBounds_toArray, List.set_cons_zero, List.set_cons_succ])
  refine wpList_val (.slice a3 n2 c3) (by rfl) (by have q : w7.cell? ⟨b5, 3, none⟩ = some (.slice a3 n2 c3) := K7.out.cell (i := 1) rfl (by rfl); go_simp) ?_
  (try simp only [Act.put, List.getElem_toArray, List.getElem_cons_succ, List.getElem_cons_zero, List.setIfInBounds_toArray, List.set_cons_zero, List.set_cons_succ])
  refine wpList_val (.int .i64 (n2 : Nat)) (by rfl) (by go_simp) ?_
  (try simp only [Act.put, List.getElem_toArray, List.getElem_cons_succ, List.getElem_cons_zero, List.setIfInBounds_toArray, List.set_cons_zero, List.set_cons_succ])
  refine wpList_val (.bool false) (by rfl) (by go_simp) ?_
  (try simp only [Act.put, List.getElem_toArray, List.getElem_cons_succ, List.getElem_cons_zero, List.setIfInBounds_toArray, List.set_cons_zero, List.set_cons_succ])
  refine wpList_val (.bool false) (by rfl) (run_pick_no (.tmp 43) (.const (.bool true)) (.tmp 50) _ rfl rfl rfl) ?_
  (try simp only [Act.put, List.getElem_toArray, List.getElem_cons_succ, List.getElem_cons_zero, List.setIfInBounds_toArray, List.set_cons_zero, List.set_cons_succ])
  refine wpList_val (.bool false) (by rfl) (by go_simp) ?_
  (try simp only [Act.put, List.getElem_toArray, List.getElem_cons_succ, List.getElem_cons_zero, List.setIfInBounds_toArray, List.set_cons_zero, List.set_cons_succ])
  refine wpList_val (.pointer (some ⟨b4, 4, none⟩)) (by rfl) (by go_simp) ?_
  (try simp only [Act.put, List.getElem_toArray, List.getElem_cons_succ, List.getElem_cons_zero, List.setIfInBounds_toArray, List.set_cons_zero, List.set_cons_succ])
  refine wpList_val (.slice a2 n2 c2) (by rfl) (by have q : w7.cell? ⟨b4, 4, none⟩ = some (.slice a2 n2 c2) := K7.out.cell (i := 0) rfl (by rfl); go_simp) ?_
  (try simp only [Act.put, List.getElem_toArray, List.getElem_cons_succ, List.getElem_cons_zero, List.setIfInBounds_toArray, List.set_cons_zero, List.set_cons_succ])
  refine wpList_val (.int .i64 (n2 : Nat)) (by rfl) (by go_simp) ?_
  (try simp only [Act.put, List.getElem_toArray, List.getElem_cons_succ, List.getElem_cons_zero, List.setIfInBounds_toArray, List.set_cons_zero, List.set_cons_succ])
  refine wpList_val (.pointer (some ⟨b5, 4, none⟩)) (by rfl) (by go_simp) ?_
  (try simp only [Act.put, List.getElem_toArray, List.getElem_cons_succ, List.getElem_cons_zero, List.setIfInBounds_toArray, List.set_cons_zero, List.set_cons_succ])
  refine wpList_val (.slice a4 n2 c4) (by rfl) (by have q : w7.cell? ⟨b5, 4, none⟩ = some (.slice a4 n2 c4) := K7.out.cell (i := 1) rfl (by rfl); go_simp) ?_
  (try simp only [Act.put, List.getElem_toArray, List.getElem_cons_succ, List.getElem_cons_zero, List.setIfInBounds_toArray, List.set_cons_zero, List.set_cons_succ])
  refine wpList_val (.int .i64 (n2 : Nat)) (by rfl) (by go_simp) ?_
  (try simp only [Act.put, List.getElem_toArray, List.getElem_cons_succ, List.getElem_cons_zero, List.setIfInBounds_toArray, List.set_cons_zero, List.set_cons_succ])
  refine wpList_val (.bool false) (by rfl) (by go_simp) ?_
  (try simp only [Act.put, List.getElem_toArray, List.getElem_cons_succ, List.getElem_cons_zero, List.setIfInBounds_toArray, List.set_cons_zero, List.set_cons_succ])
  refine wpList_val (.bool false) (by rfl) (run_pick_no (.tmp 52) (.const (.bool true)) (.tmp 59) _ rfl rfl rfl) ?_
  (try simp only [Act.put, List.getElem_toArray, List.getElem_cons_succ, List.getElem_cons_zero, List.setIfInBounds_toArray, List.set_cons_zero, List.set_cons_succ])
  refine wpList_nil ?_
  go_wp2_with fail
  exact HK7.out _ _ (ch7 n2 R C P b4 b5 (rolesE self R C P L n2) (tellsK self R C L n2) a1 c1 a2 c2 a3 c3 a4 c4 _ _ _ _ _ _ _ _ _ _ _ _ _ _ _ _ _ _ _ _ _ _ _ _ _ _ _ _ _ _ _ _ _ _ _ _ _ _ _ _ _ _ _ _ _ _ _ _ _ _ _ _ _ _ _ _ _ _ _ _ _ _ _ _ _ _ _ _ _ _ _ _ _ _ _ _ _ _ _ _ _ _ _ _ _ _ _ _ _ _ _ _ _ _ _ _ _ _ _ w w7 _ _ HN.out LE.out LT.out (BA.out.trans ((BB.out.trans ((BC.out.trans (K7.out.below.mono BC.out.size)).mono BB.out.size)).mono BA.out.size)) ((O1.out.next BC.out).next K7.out.below) ((O2.out.next BC.out).next K7.out.below) (O3.out.next K7.out.below) (O4.out.next K7.out.below) (K7.out.at (i := 0) rfl) (K7.out.at (i := 1) rfl))
end Go.Proofs.Ytojijeaofkndpaa
