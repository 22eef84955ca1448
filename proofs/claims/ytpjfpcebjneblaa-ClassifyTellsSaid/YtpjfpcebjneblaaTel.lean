/- ClassifyTells' walk. -/
import Derived.Test.YtpjfpcebjneblaaTelC
namespace Go.Proofs.Ytpjfpcebjneblaa
open Go.RowKit
attribute [local irreducible] wpQuiet
set_option linter.unusedSimpArgs false
set_option linter.unusedVariables false

set_option maxRecDepth 100000 in
set_option maxHeartbeats 16000000 in
theorem tells_walk (pv : Nat) (ac : Int) (fi : Bool) (no : Int) (tg : Bool) (vi : Nat) (a : Option Addr) (len cap : Nat) (rows : List (Nat × Nat)) (w0 : World) (h : IsPairs w0 a len cap rows) :
    Calls Try.prog 3 #[.agg #[.int .u16 (pv : Nat), .int .i64 ac, .bool fi, .int .i64 no, .bool tg, .int .u16 (vi : Nat), .slice a len cap]] w0 fun e w' => e = .returned (.bool true) ∧ Below w0.heap.size w0 w' := by
  obtain ⟨hl, hr, hok, hc, hn⟩ := h
  have HL := Lib.hid hl
  have HR := Lib.hid hr
  have HOK := Lib.hid hok
  have hlc : (len : Int) ≤ 9223372036854775807 := by have := hc.1; have := hc.2; unfold maxLen at *; omega
  have HC := Lib.hid hc
  clear hl hr hok hc hn
  obtain ⟨xs, hxs⟩ : ∃ xs : Array Value, xs = #[.int .u16 (pv : Nat), .int .i64 ac, .bool fi, .int .i64 no, .bool tg, .int .u16 (vi : Nat), .slice a len cap] := ⟨_, rfl⟩
  obtain ⟨g, hg⟩ : ∃ g, g = w0.heap.size := ⟨_, rfl⟩
  obtain ⟨w1, hw1⟩ : ∃ w1, w1 = w0.alloc (.cells xs 25) := ⟨_, rfl⟩
  have hb1 : Below w0.heap.size w0 w1 := by rw [hw1]; exact (Below.refl _ _).alloc (Nat.le_refl _) _
  have hk1 : Blk w1 g xs 25 := by rw [hw1, hg]; exact Blk.new _ _ _
  have hlt : g < w1.heap.size := hk1.lt
  have HCELL := Lib.hid (show ∀ W, Below w1.heap.size w1 W → W.cell? ⟨g, 0, none⟩ = some (.int .u16 (pv : Nat)) ∧ W.cell? ⟨g, 1, none⟩ = some (.int .i64 ac) ∧ W.cell? ⟨g, 2, none⟩ = some (.bool fi) ∧ W.cell? ⟨g, 3, none⟩ = some (.int .i64 no) ∧
      W.cell? ⟨g, 4, none⟩ = some (.bool tg) ∧ W.cell? ⟨g, 5, none⟩ = some (.int .u16 (vi : Nat)) ∧ W.cell? ⟨g, 6, none⟩ = some (.slice a len cap) from fun W hW => by
    have k := hk1.below hW hlt
    rw [hxs] at k
    exact ⟨k.cell 0, k.cell 1, k.cell 2, k.cell 3, k.cell 4, k.cell 5, k.cell 6⟩)
  have HW := Lib.hid hw1
  have HG := Lib.hid hg
  have HB1 := Lib.hid hb1
  have HXS := Lib.hid hxs
  clear hxs hg hw1 hb1 hk1 hlt
  go_enter Try.func3, Try.ntmps3
  go_upto_region 1 with fail
  rw [← HXS.out, ← HW.out, ← HG.out]
  go_upto_region 4 with (first | (go_at_call 8; refine (speaks11_any w1).mono ?_; rintro e w2 ⟨rfl, hb2⟩) | (go_at_call 9; refine (new_tm _).mono ?_; rintro e w3 ⟨b, rfl, ht, hb3⟩))
  have O3 := Lib.hid (OneV.start hb2 ht hb3)
  generalize w2.heap.size = A at O3
  generalize w3.heap.size = B at O3
  clear ht hb2 hb3
  obtain ⟨c0, c1, c2, c3, c4, c5, c6⟩ := HCELL.out w3 O3.out.below
  go_upto_region 5 with fail
  obtain ⟨P, hP⟩ : ∃ P, P = w3.heap.size := ⟨_, rfl⟩
  obtain ⟨w4, hw4⟩ : ∃ w4, w4 = w3.alloc (.cells (poA pv ac fi) 30) := ⟨_, rfl⟩
  have C4 := Lib.hid (show Ctx w1 b A B P (poA pv ac fi) [] w4 from ⟨by rw [hw4]; exact O3.out.next ((Below.refl _ _).alloc (Nat.le_refl _) _), by unfold Small; simp, by rw [hP]; exact O3.out.low.2.2, by rw [hw4, hP]; exact Blk.new _ _ _⟩)
  rw [← hw4, ← hP]
  clear hw4 hP O3 c0 c1 c2 c3 c4 c5 c6
  go_upto_region 6 with fail
  rename_i K9 hK9
  have HK9 := Lib.hid hK9
  clear hK9
  go_loopw [5] (fun i wr => ∃ (k : Nat) (l : List Vl), k ≤ len ∧ k ≤ 16 ∧ i = .int .i64 k ∧ Ctx w1 b A B P (poA pv ac fi) l wr) (fun i _ => (16 - intOf i).toNat)
  case atStart => exact ⟨0, [], by omega, by omega, rfl, C4.out⟩
  case round =>
    obtain ⟨k, l, hk, hk2, rfl, hI⟩ := hrel
    have HI := Lib.hid hI
    clear hI C4
    have c6 := (HCELL.out wr HI.out.one.below).2.2.2.2.2.2
    by_cases hlt : k < len ∧ k < 16
    · obtain ⟨h1, h2⟩ := hlt
      obtain ⟨x, hx⟩ : ∃ x, rows[k]? = some x := ⟨_, List.getElem?_eq_getElem (show k < rows.length by rw [HL.out]; exact h1)⟩
      have HXO := Lib.hid (HOK.out x (List.mem_of_getElem? hx))
      rcases HR.out with hnil | ⟨ab, off, rfl, hab, hcells⟩
      · rw [hnil] at hx; simp at hx
      have HR0 := Lib.hid (show ∀ W, Below w1.heap.size w1 W → W.cell? ⟨ab, off + k * 2, none⟩ = some (.int .u16 (x.1 : Nat)) from fun W hW => by
        rw [(HB1.out.trans (hW.mono HB1.out.size)).cell (p := ⟨ab, off + k * 2, none⟩) hab]
        exact hcells k x hx 0 _ rfl)
      have HR1 := Lib.hid (show ∀ W, Below w1.heap.size w1 W → W.cell? ⟨ab, off + k * 2 + 1, none⟩ = some (.int .u16 (x.2 : Nat)) from fun W hW => by
        rw [(HB1.out.trans (hW.mono HB1.out.size)).cell (p := ⟨ab, off + k * 2 + 1, none⟩) hab]
        exact hcells k x hx 1 _ rfl)
      have hkc : k ≤ cap := by have := HC.out.1; omega
      have E3 := Lib.hid (show IntKind.u32.wrap (x.2 : Int) = (x.2 : Int) by rw [wrap_u32]; have := HXO.out.2; omega)
      clear hcells hx
      obtain ⟨y, hy⟩ : ∃ y : Vl, y = ⟨x.1, x.2, 0⟩ := ⟨_, rfl⟩
      go_upto_region 8 with fail
      refine wp_region_quiet (C := CtxE w1 b A B P (poA pv ac fi) ⟨x.1, x.2, 0⟩ (setVE l ⟨x.1, x.2, 0⟩)) (by kernel_rfl) (by kernel_rfl) ⟨l, HI.out.next (Below.refl _ _).drew, rfl⟩ ?_
      (refine q_val (v := ?_) (by rfl) ?_ ?_; rotate_left; (· (intro w hC; go_simp; try with_reducible rfl)); (try simp only [Act.put, List.getElem_toArray, List.getElem_cons_succ, List.getElem_cons_zero, List.setIfInBounds_toArray, List.set_cons_zero, List.set_cons_succ]))
      (refine q_val (v := ?_) (by rfl) ?_ ?_; rotate_left; (· (intro w hC; go_simp; try with_reducible rfl)); (try simp only [Act.put, List.getElem_toArray, List.getElem_cons_succ, List.getElem_cons_zero, List.setIfInBounds_toArray, List.set_cons_zero, List.set_cons_succ]))
      (refine q_val (v := ?_) (by rfl) ?_ ?_; rotate_left; (· (intro w hC; have q := (HCELL.out w hC.below).2.2.2.2.2.2; go_simp; try with_reducible rfl)); (try simp only [Act.put, List.getElem_toArray, List.getElem_cons_succ, List.getElem_cons_zero, List.setIfInBounds_toArray, List.set_cons_zero, List.set_cons_succ]))
      (refine q_val (v := ?_) (by rfl) ?_ ?_; rotate_left; (· (intro w hC; go_simp; try with_reducible rfl)); (try simp only [Act.put, List.getElem_toArray, List.getElem_cons_succ, List.getElem_cons_zero, List.setIfInBounds_toArray, List.set_cons_zero, List.set_cons_succ]))
      (refine q_val (v := ?_) (by rfl) ?_ ?_; rotate_left; (· (intro w hC; go_simp; try with_reducible rfl)); (try simp only [Act.put, List.getElem_toArray, List.getElem_cons_succ, List.getElem_cons_zero, List.setIfInBounds_toArray, List.set_cons_zero, List.set_cons_succ]))
      (refine q_val (v := ?_) (by rfl) ?_ ?_; rotate_left; (· (intro w hC; go_simp; try with_reducible rfl)); (try simp only [Act.put, List.getElem_toArray, List.getElem_cons_succ, List.getElem_cons_zero, List.setIfInBounds_toArray, List.set_cons_zero, List.set_cons_succ]))
      (refine q_val (v := ?_) (by rfl) ?_ ?_; rotate_left; (· (intro w hC; have q := HR0.out w hC.below; go_simp; try with_reducible rfl)); (try simp only [Act.put, List.getElem_toArray, List.getElem_cons_succ, List.getElem_cons_zero, List.setIfInBounds_toArray, List.set_cons_zero, List.set_cons_succ]))
      (refine q_val (v := ?_) (by rfl) ?_ ?_; rotate_left; (· (intro w hC; go_simp; try with_reducible rfl)); (try simp only [Act.put, List.getElem_toArray, List.getElem_cons_succ, List.getElem_cons_zero, List.setIfInBounds_toArray, List.set_cons_zero, List.set_cons_succ]))
      (refine q_val (v := ?_) (by rfl) ?_ ?_; rotate_left; (· (intro w hC; have q := (HCELL.out w hC.below).2.2.2.2.2.2; go_simp; try with_reducible rfl)); (try simp only [Act.put, List.getElem_toArray, List.getElem_cons_succ, List.getElem_cons_zero, List.setIfInBounds_toArray, List.set_cons_zero, List.set_cons_succ]))
      (refine q_val (v := ?_) (by rfl) ?_ ?_; rotate_left; (· (intro w hC; go_simp; try with_reducible rfl)); (try simp only [Act.put, List.getElem_toArray, List.getElem_cons_succ, List.getElem_cons_zero, List.setIfInBounds_toArray, List.set_cons_zero, List.set_cons_succ]))
      (refine q_val (v := ?_) (by rfl) ?_ ?_; rotate_left; (· (intro w hC; go_simp; try with_reducible rfl)); (try simp only [Act.put, List.getElem_toArray, List.getElem_cons_succ, List.getElem_cons_zero, List.setIfInBounds_toArray, List.set_cons_zero, List.set_cons_succ]))
      (refine q_val (v := ?_) (by rfl) ?_ ?_; rotate_left; (· (intro w hC; go_simp; try with_reducible rfl)); (try simp only [Act.put, List.getElem_toArray, List.getElem_cons_succ, List.getElem_cons_zero, List.setIfInBounds_toArray, List.set_cons_zero, List.set_cons_succ]))
      (refine q_val (v := ?_) (by rfl) ?_ ?_; rotate_left; (· (intro w hC; have q := HR1.out w hC.below; go_simp; try with_reducible rfl)); (try simp only [Act.put, List.getElem_toArray, List.getElem_cons_succ, List.getElem_cons_zero, List.setIfInBounds_toArray, List.set_cons_zero, List.set_cons_succ]))
      (refine q_val (v := .int .u32 (x.2 : Nat)) (by rfl) (fun w hC => by go_simp; exact E3.out) ?_; (try simp only [Act.put, List.getElem_toArray, List.getElem_cons_succ, List.getElem_cons_zero, List.setIfInBounds_toArray, List.set_cons_zero, List.set_cons_succ]))
      (refine q_val (v := ?_) (by rfl) ?_ ?_; rotate_left; (· (intro w hC; go_simp; try with_reducible rfl)); (try simp only [Act.put, List.getElem_toArray, List.getElem_cons_succ, List.getElem_cons_zero, List.setIfInBounds_toArray, List.set_cons_zero, List.set_cons_succ]))
      (refine q_call (v := .int .i64 (setVE l ⟨x.1, x.2, 0⟩)) 10 #[.pointer (some ⟨b, 0, none⟩), vlV ⟨x.1, x.2, 0⟩] (by rfl) (fun w hC => by go_simp) (fun w hC => hC.set) ?_; (try simp only [Act.put, List.getElem_toArray, List.getElem_cons_succ, List.getElem_cons_zero, List.setIfInBounds_toArray, List.set_cons_zero, List.set_cons_succ]))
      refine wpQuiet_nil ?_
      intro w5 hC5
      obtain ⟨l5, hC5, -⟩ := hC5
      have K5 := Lib.hid hC5
      clear hC5 c6
      go_wp2_with fail
      go_roundw
      case rel => exact ⟨k + 1, l5, by omega, by omega, by go_num, K5.out⟩
      case measure => simp [intOf]; omega
    · have HE := Lib.hid (show ¬ (k : Int) < (len : Int) ∨ ((k : Int) < (len : Int) ∧ ¬ (k : Int) < 16) by omega)
      clear hlt hk hk2
      rcases HE.out with g1 | ⟨g1, g2⟩
      all_goals
        go_wp2_with fail
        exact HK9.out _ _ (t9 w0 w1 xs g b A B P pv ac fi no tg vi (.slice a len cap) l HB1 HCELL _ _ _ _ _ _ _ _ _ _ _ _ _ _ _ _ _ _ _ _ _ _ _ _ _ _ _ _ _ _ _ _ _ _ _ _ _ _ _ _ _ _ _ _ _ _ _ _ _ _ _ _ _ _ _ _ _ _ _ _ _ _ _ _ _ _ _ _ _ _ _ _ _ _ _ _ _ _ _ _ _ _ _ _ _ _ _ _ _ _ _ _ _ _ _ _ _ _ _ _ _ _ _ _ _ _ _ _ _ _ _ _ _ _ _ _ _ _ _ _ _ _ _ _ _ _ _ _ _ _ _ _ _ _ _ _ _ _ _ _ _ _ _ _ _ _ _ _ _ _ _ _ _ _ _ _ _ _ _ _ _ _ _ _ wr HI.out)
end Go.Proofs.Ytpjfpcebjneblaa
