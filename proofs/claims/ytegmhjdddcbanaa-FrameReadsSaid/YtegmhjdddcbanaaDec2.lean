/- frame.Decode, walked. -/
import Derived.Test.YtegmhjdddcbanaaDecM
namespace Go.Proofs.Ytegmhjdddcbanaa
open Go.RowKit

theorem frA_d (m : Nat → Nat) : ((((((nil18.setIfInBounds 0 (.int .u8 (m 0 : Nat))).setIfInBounds 1 (.int .u8 (m 1 : Nat))).setIfInBounds 2 (.int .u8 (m 2 : Nat))).setIfInBounds 3 (.int .u8 (m 3 : Nat))).setIfInBounds 4 (.int .u8 (m 4 : Nat))).setIfInBounds 5 (.int .u8 (m 5 : Nat))) = frA m (fun _ => 0) false 0 false 0 0 ⟨#[]⟩ := rfl
theorem frA_s (d m : Nat → Nat) : (((((((frA d (fun _ => 0) false 0 false 0 0 ⟨#[]⟩).setIfInBounds 6 (.int .u8 (m 0 : Nat))).setIfInBounds 7 (.int .u8 (m 1 : Nat))).setIfInBounds 8 (.int .u8 (m 2 : Nat))).setIfInBounds 9 (.int .u8 (m 3 : Nat))).setIfInBounds 10 (.int .u8 (m 4 : Nat))).setIfInBounds 11 (.int .u8 (m 5 : Nat))) = frA d m false 0 false 0 0 ⟨#[]⟩ := rfl

theorem frA_congr {d d' s s' : Nat → Nat} {tg : Bool} {pc : Nat} {de : Bool} {vi ty : Nat} {da : ByteArray} (h1 : mac d = mac d') (h2 : mac s = mac s') : frA d s tg pc de vi ty da = frA d' s' tg pc de vi ty da := by
  simp only [mac, Value.agg.injEq, Array.mk.injEq, List.cons.injEq, Value.int.injEq, Int.natCast_inj, true_and, and_true] at h1 h2
  obtain ⟨a0, a1, a2, a3, a4, a5⟩ := h1
  obtain ⟨b0, b1, b2, b3, b4, b5⟩ := h2
  unfold frA
  rw [a0, a1, a2, a3, a4, a5, b0, b1, b2, b3, b4, b5]

set_option maxRecDepth 100000 in
set_option maxHeartbeats 4000000 in
theorem decode_short (s : ByteArray) (w : World) (h : ¬ 1518 < s.size) : Calls Try.prog 27 #[.string s] w fun e w' => e = .returned (.tuple #[.agg (decA s), .int .i64 (decE s)]) ∧ Below w.heap.size w w' := by
  obtain ⟨W, hW⟩ : ∃ W, W = (w.alloc (Obj.cells nil18 52)).alloc (Obj.cells nil18 52) := ⟨_, rfl⟩
  have hB : Below w.heap.size w W := by rw [hW]; exact ((Below.refl _ _).alloc (Nat.le_refl _) _).alloc (by simp) _
  have r0 : Blk W w.heap.size nil18 52 := by rw [hW]; exact (Blk.new _ _ _).alloc _
  have r1 : Blk W (w.heap.size + 1) nil18 52 := by
    rw [hW]
    have := Blk.new (w.alloc (Obj.cells nil18 52)) nil18 52
    rwa [show (w.alloc (Obj.cells nil18 52)).heap.size = w.heap.size + 1 by simp] at this
  have hsW : W.heap.size = w.heap.size + 2 := by rw [hW]; simp
  have HSW := Lib.hid hsW
  have HW := Lib.hid hW
  have HN := Lib.hid h
  have hI : ¬ (1518 : Int) < (s.size : Int) := by omega
  have hi := Lib.hid size52
  clear hW h hsW
  go_enter Try.func27, Try.ntmps27
  go_wp2_with (fail)
  simp only [nil18] at HW
  rw [← HW.out]
  clear HW
  refine (read_any s W).mono ?_
  rintro e w1 ⟨rfl, hr1, hb1, hz1⟩
  have ds : Ds w w.heap.size nil18 s false w1 := ⟨r0.below hb1 r0.lt, r1.below hb1 r1.lt, by have := hr1; rw [HSW.out] at this; exact this, hB.trans (hb1.mono hB.size), by rw [hz1, HSW.out]; omega⟩
  rw [HSW.out]
  clear r0 r1 hB hr1 hb1 hz1
  generalize hBe : w.heap.size = B at *
  have HB := Lib.hid hBe
  clear hBe
  have DS := Lib.hid ds
  clear ds
  go_wp2_with (fail)
  refine (readAddress_any (B + 2) s false _ DS.out.rd).mono ?_
  rintro e w2 ⟨rfl, hr2, hg2⟩
  have ds2 := DS.out.grown hr2 hg2
  have hm1 : nV s false 6 = V1 s := rfl
  rw [hm1]
  obtain ⟨m1, hm1⟩ : ∃ m, m = byteF (V1 s) := ⟨_, rfl⟩
  rw [← hm1]
  have M1 := Lib.hid hm1
  obtain ⟨⟨v0, c0⟩, f0⟩ := ds2.there rfl 0 (by omega)
  obtain ⟨⟨v1, c1⟩, f1⟩ := ds2.there rfl 1 (by omega)
  obtain ⟨⟨v2, c2⟩, f2⟩ := ds2.there rfl 2 (by omega)
  obtain ⟨⟨v3, c3⟩, f3⟩ := ds2.there rfl 3 (by omega)
  obtain ⟨⟨v4, c4⟩, f4⟩ := ds2.there rfl 4 (by omega)
  obtain ⟨⟨v5, c5⟩, f5⟩ := ds2.there rfl 5 (by omega)
  have ds3 := ds2.put0 m1
  rw [frA_d] at ds3
  have DS := Lib.hid ds3
  clear ds2 ds3 hr2 hg2 hm1
  go_wp2_with fail
  refine (readAddress_any (B + 2) (R1 s) (S1 s) _ DS.out.rd).mono ?_
  rintro e w3 ⟨rfl, hr3, hg3⟩
  have ds2 := DS.out.grown hr3 hg3
  rw [show nV (R1 s) (S1 s) 6 = V2 s from rfl]
  obtain ⟨m2, hm2⟩ : ∃ m, m = byteF (V2 s) := ⟨_, rfl⟩
  rw [← hm2]
  have M2 := Lib.hid hm2
  clear c0 c1 c2 c3 c4 c5 f0 f1 f2 f3 f4 f5
  obtain ⟨⟨v0, c0⟩, f0⟩ := ds2.there rfl 6 (by omega)
  obtain ⟨⟨v1, c1⟩, f1⟩ := ds2.there rfl 7 (by omega)
  obtain ⟨⟨v2, c2⟩, f2⟩ := ds2.there rfl 8 (by omega)
  obtain ⟨⟨v3, c3⟩, f3⟩ := ds2.there rfl 9 (by omega)
  obtain ⟨⟨v4, c4⟩, f4⟩ := ds2.there rfl 10 (by omega)
  obtain ⟨⟨v5, c5⟩, f5⟩ := ds2.there rfl 11 (by omega)
  have ds3 := ds2.put6 m2
  rw [frA_s] at ds3
  have DS := Lib.hid ds3
  clear ds2 ds3 hr3 hg3 hm2
  go_wp2_with fail
  refine (readWord_any (B + 2) (R2 s) (S2 s) _ DS.out.rd).mono ?_
  rintro e w4 ⟨rfl, hr4, hg4⟩
  have ds2 := DS.out.grown hr4 hg4
  rw [show nV (R2 s) (S2 s) 2 = V3 s from rfl]
  obtain ⟨t, ht⟩ : ∃ t, t = V3 s := ⟨_, rfl⟩
  rw [← ht]
  have T := Lib.hid ht
  clear c0 c1 c2 c3 c4 c5 f0 f1 f2 f3 f4 f5
  obtain ⟨⟨v0, c0⟩, f0⟩ := ds2.there rfl 16 (by omega)
  have ds3 := ds2.put 16 (.int .u16 (t : Nat))
  have DS := Lib.hid (show Ds w B (frA m1 m2 false 0 false 0 t ⟨#[]⟩) (R3 s) (S3 s) (w4.setCell ⟨B + 1, 16, none⟩ (.int .u16 (t : Nat))) from ds3)
  clear ds2 ds3 hr4 hg4 ht
  go_upto_region 8 with fail
  obtain ⟨w5, hw5⟩ : ∃ w5, w5 = w4.setCell ⟨B + 1, 16, none⟩ (.int .u16 (t : Nat)) := ⟨_, rfl⟩
  have ds := DS.out
  rw [← hw5] at ds
  rw [← hw5]
  have DS := Lib.hid ds
  have k16 : w5.cell? ⟨B + 1, 16, none⟩ = some (.int .u16 (t : Nat)) := ds.r1.cell 16
  clear ds hw5 c0 f0
  by_cases h14 : s.size < 14
  · obtain ⟨n1, n2⟩ := head_no s h14
    have E1 := Lib.hid (show decE s = 2 by unfold decE; rw [if_neg HN.out, if_pos h14])
    have E2 := Lib.hid (show decA s = nil18 by unfold decA; rw [if_neg (by rw [E1.out]; omega)])
    have ht0 : t = 0 := by rw [T.out, n1]
    have q1 : ((t : Int) == 33024) = false := by rw [ht0]; rfl
    have hen := Lib.hid (show endN (R3 s) (S3 s) = 2 by rw [n2]; rfl)
    have hon := Lib.hid nil18_one
    clear ht0 n1 n2 h14
    go_wp2_with fail
    refine (end_any (B + 2) (R3 s) (S3 s) _ DS.out.rd).mono ?_
    rintro e w6 ⟨rfl, rfl⟩
    rw [hen.out]
    go_wp2_with (refine wpList_store_row rfl 52 _ _ rfl B nil18 rfl rfl 52 nil18 DS.out.r0 hi.out rfl hon.out ?_)
    exact bodyPost_ret (v := .tuple #[.agg nil18, .int .i64 2]) (results_row_tmp Try.results27 _ _ B 52 nil18 _ _ rfl rfl (DS.out.r0.row _) Try.underlying52 rfl hi.out) rfl ⟨ret_frm E2.out.symm E1.out.symm, by rw [HB.out]; exact below_setRow DS.out.below (Nat.le_refl _) _⟩
  · obtain ⟨n1, n2, n3, n4, n5⟩ := head_yes s (by omega)
    have H14 := Lib.hid h14
    have N1 := Lib.hid (show mac m1 = mac (byteAt' s) by rw [M1.out]; exact n1)
    have N2 := Lib.hid (show mac m2 = mac (srcF s) by rw [M2.out]; exact n2)
    have TW := Lib.hid (show t = wordAt s 12 by rw [T.out, n3])
    have N4 := Lib.hid n4
    have N5 := Lib.hid n5
    clear n1 n2 n3 n4 n5 h14
    cases htg : tgB s with
    | false =>
      have hne : t ≠ 33024 := by rw [TW.out]; unfold tgB at htg; exact of_decide_eq_false htg
      have q1 : ((t : Int) == 33024) = false := by simp; omega
      have E1 := Lib.hid (show decE s = 0 by unfold decE; rw [if_neg HN.out, if_neg H14.out, if_neg (by rw [htg]; simp)])
      have hsh := DS.out.rd
      rw [N4.out, N5.out] at hsh
      have HRd := Lib.hid hsh
      obtain ⟨rest, hrest⟩ : ∃ rest, rest = s.extract 14 s.size := ⟨_, rfl⟩
      rw [← hrest] at HRd hsh
      have RE := Lib.hid hrest
      have E2 := Lib.hid (show frA m1 m2 false 0 false 0 t rest = decA s by
        unfold decA
        rw [if_pos E1.out, if_neg (by rw [htg]; simp), hrest, ← TW.out]
        exact frA_congr N1.out N2.out)
      have hen : endN rest false = 0 ∨ endN rest false = 3 := by unfold endN; rw [if_neg (by simp)]; split; exact .inl rfl; exact .inr rfl
      have q2 : (endN rest false == 2) = false := by rcases hen with h | h <;> rw [h] <;> rfl
      have k15 : w5.cell? ⟨B + 1, 15, none⟩ = some (.int .u16 0) := DS.out.r1.cell 15
      have k17 : w5.cell? ⟨B + 1, 17, none⟩ = some (.string ⟨#[]⟩) := DS.out.r1.cell 17
      have g17 := DS.out.r1.free 17
      have hon := Lib.hid (frA_one m1 m2 false 0 false 0 t rest)
      clear hne htg hrest hen hsh
      go_wp2_with fail
      refine (end_any (B + 2) rest false _ HRd.out).mono ?_
      rintro e w6 ⟨rfl, rfl⟩
      generalize hee : endN rest false = ee at *
      clear hee
      go_wp2_with fail
      refine (left_any (B + 2) rest false _ HRd.out).mono ?_
      rintro e w6 ⟨rfl, rfl⟩
      go_wp2_with fail
      refine (raw_good (B + 2) rest.size rest _ HRd.out (Nat.le_refl _)).mono ?_
      rintro e w6 ⟨rfl, hr6, hg6⟩
      rw [whole rest]
      have ds6 := DS.out.grown hr6 hg6
      obtain ⟨⟨v0, c0⟩, f0⟩ := ds6.there rfl 17 (by omega)
      have ds7 := ds6.put 17 (.string rest)
      have DS := Lib.hid (show Ds w B (frA m1 m2 false 0 false 0 t rest) _ _ (w6.setCell ⟨B + 1, 17, none⟩ (.string rest)) from ds7)
      clear ds6 ds7 k15 k16 k17 g17 hr6 hg6
      go_wp2_with (first
        | (refine wpList_load_row rfl 52 _ rfl (B + 1) rfl 52 _ (0, 0) _ DS.out.r1 Try.underlying52 rfl hi.out ?_)
        | (refine wpList_store_row rfl 52 _ _ rfl B (frA m1 m2 false 0 false 0 t rest) rfl rfl 52 nil18 DS.out.r0 hi.out rfl hon.out ?_))
      exact bodyPost_ret (v := .tuple #[.agg (frA m1 m2 false 0 false 0 t rest), .int .i64 0]) (results_row_tmp Try.results27 _ _ B 52 (frA m1 m2 false 0 false 0 t rest) _ _ rfl rfl (DS.out.r0.row _) Try.underlying52 rfl hi.out) rfl ⟨ret_frm E2.out E1.out.symm, by rw [HB.out]; exact below_setRow DS.out.below (Nat.le_refl _) _⟩
    | true =>
      have HTG := Lib.hid htg
      have heq : t = 33024 := by rw [TW.out]; unfold tgB at htg; exact of_decide_eq_true htg
      have q1 : ((t : Int) == 33024) = true := by rw [heq]; rfl
      clear heq htg
      go_wp2_with fail
      refine (readWord_any (B + 2) (R3 s) (S3 s) _ DS.out.rd).mono ?_
      rintro e w6 ⟨rfl, hr6, hg6⟩
      have ds6 := DS.out.grown hr6 hg6
      rw [show nV (R3 s) (S3 s) 2 = V4 s from rfl]
      have hx := nV_lt (R3 s) (S3 s) 2
      rw [show nV (R3 s) (S3 s) 2 = V4 s from rfl] at hx
      obtain ⟨x, hxe⟩ : ∃ x, x = V4 s := ⟨_, rfl⟩
      rw [← hxe] at hx
      rw [← hxe]
      have X := Lib.hid hxe
      have hx' : x < 65536 := by omega
      clear hxe hx k16
      have DS6 := Lib.hid ds6
      clear ds6 hr6 hg6
      go_wp2_with fail
      refine (readTag_any (B + 1) x _ _ hx' DS6.out.r1 rfl).mono ?_
      rintro e w7 ⟨rfl, hr7, hg7⟩
      have ds7 := DS6.out.one hr7 hg7
      obtain ⟨y, hy⟩ : ∃ y, y = x / 8192 := ⟨_, rfl⟩
      obtain ⟨z, hz⟩ : ∃ z, z = decide (x / 4096 % 2 = 1) := ⟨_, rfl⟩
      obtain ⟨v, hv⟩ : ∃ v, v = x % 4096 := ⟨_, rfl⟩
      rw [← hy, ← hz, ← hv] at ds7
      have DS7 := Lib.hid (show Ds w B (frA m1 m2 true y z v t ⟨#[]⟩) (R4 s) (S4 s) w7 from ds7)
      have YE := Lib.hid hy
      have ZE := Lib.hid hz
      have VE := Lib.hid hv
      have lv : v < 65536 := by omega
      clear ds7 hr7 hg7 hy hz hv
      go_wp2_with fail
      refine (readWord_any (B + 2) (R4 s) (S4 s) _ DS7.out.rd).mono ?_
      rintro e w8 ⟨rfl, hr8, hg8⟩
      have ds8 := DS7.out.grown hr8 hg8
      rw [show nV (R4 s) (S4 s) 2 = V5 s from rfl]
      obtain ⟨u, hu⟩ : ∃ u, u = V5 s := ⟨_, rfl⟩
      rw [← hu]
      have U := Lib.hid hu
      obtain ⟨⟨v0, c0⟩, f0⟩ := ds8.there rfl 16 (by omega)
      have ds9 := ds8.put 16 (.int .u16 (u : Nat))
      have DS9 := Lib.hid (show Ds w B (frA m1 m2 true y z v u ⟨#[]⟩) (R5 s) (S5 s) (w8.setCell ⟨B + 1, 16, none⟩ (.int .u16 (u : Nat))) from ds9)
      clear ds8 ds9 hr8 hg8 hu
      go_upto_region 11 with fail
      obtain ⟨w9, hw9⟩ : ∃ w9, w9 = w8.setCell ⟨B + 1, 16, none⟩ (.int .u16 (u : Nat)) := ⟨_, rfl⟩
      have ds := DS9.out
      rw [← hw9] at ds
      rw [← hw9]
      have DS := Lib.hid ds
      have k15 : w9.cell? ⟨B + 1, 15, none⟩ = some (.int .u16 (v : Nat)) := ds.r1.cell 15
      clear ds hw9 c0 f0 q1
      by_cases h18 : s.size < 18
      · have E1 := Lib.hid (show decE s = 2 by unfold decE; rw [if_neg HN.out, if_neg H14.out, if_pos HTG.out, if_pos h18])
        have E2 := Lib.hid (show decA s = nil18 by unfold decA; rw [if_neg (by rw [E1.out]; omega)])
        have hen := Lib.hid (show endN (R5 s) (S5 s) = 2 by rw [tag_no s (by have := H14.out; omega) h18]; rfl)
        have hon := Lib.hid nil18_one
        clear h18
        go_wp2_with fail
        refine (end_any (B + 2) (R5 s) (S5 s) _ DS.out.rd).mono ?_
        rintro e w10 ⟨rfl, rfl⟩
        rw [hen.out]
        go_wp2_with (refine wpList_store_row rfl 52 _ _ rfl B nil18 rfl rfl 52 nil18 DS.out.r0 hi.out rfl hon.out ?_)
        exact bodyPost_ret (v := .tuple #[.agg nil18, .int .i64 2]) (results_row_tmp Try.results27 _ _ B 52 nil18 _ _ rfl rfl (DS.out.r0.row _) Try.underlying52 rfl hi.out) rfl ⟨ret_frm E2.out.symm E1.out.symm, by rw [HB.out]; exact below_setRow DS.out.below (Nat.le_refl _) _⟩
      · obtain ⟨n1, n2, n3, n4⟩ := tag_yes s (by omega)
        have hsh := DS.out.rd
        rw [n3, n4] at hsh
        obtain ⟨rest, hrest⟩ : ∃ rest, rest = s.extract 18 s.size := ⟨_, rfl⟩
        rw [← hrest] at hsh
        have HRd := Lib.hid hsh
        have hen : endN rest false = 0 ∨ endN rest false = 3 := by unfold endN; rw [if_neg (by simp)]; split; exact .inl rfl; exact .inr rfl
        have q2 : (endN rest false == 2) = false := by rcases hen with h | h <;> rw [h] <;> rfl
        have XW := Lib.hid (show x = wordAt s 14 by rw [X.out, n1])
        have UW := Lib.hid (show u = wordAt s 16 by rw [U.out, n2])
        have H18 := Lib.hid h18
        have RE := Lib.hid hrest
        clear hen n1 n2 n3 n4 hsh h18 hrest
        by_cases hvid : 4094 < v
        · have E1 := Lib.hid (show decE s = 16 by unfold decE; rw [if_neg HN.out, if_neg H14.out, if_pos HTG.out, if_neg H18.out, ← XW.out, ← VE.out, if_pos hvid])
          have E2 := Lib.hid (show decA s = nil18 by unfold decA; rw [if_neg (by rw [E1.out]; omega)])
          have hon := Lib.hid nil18_one
          have hvI : (4094 : Int) < (v : Int) := by omega
          clear hvid
          go_wp2_with fail
          refine (end_any (B + 2) rest false _ HRd.out).mono ?_
          rintro e w10 ⟨rfl, rfl⟩
          generalize hee : endN rest false = ee at *
          clear hee
          go_wp2_with (refine wpList_store_row rfl 52 _ _ rfl B nil18 rfl rfl 52 nil18 DS.out.r0 hi.out rfl hon.out ?_)
          exact bodyPost_ret (v := .tuple #[.agg nil18, .int .i64 16]) (results_row_tmp Try.results27 _ _ B 52 nil18 _ _ rfl rfl (DS.out.r0.row _) Try.underlying52 rfl hi.out) rfl ⟨ret_frm E2.out.symm E1.out.symm, by rw [HB.out]; exact below_setRow DS.out.below (Nat.le_refl _) _⟩
        · have E1 := Lib.hid (show decE s = 0 by unfold decE; rw [if_neg HN.out, if_neg H14.out, if_pos HTG.out, if_neg H18.out, ← XW.out, ← VE.out, if_neg hvid])
          have E2 := Lib.hid (show frA m1 m2 true y z v u rest = decA s by
            unfold decA
            rw [if_pos E1.out, if_pos HTG.out, ← XW.out, ← UW.out, ← VE.out, ← YE.out, ← ZE.out, ← RE.out]
            exact frA_congr N1.out N2.out)
          have hvI : ¬ (4094 : Int) < (v : Int) := by omega
          have hon := Lib.hid (frA_one m1 m2 true y z v u rest)
          clear hvid
          go_wp2_with fail
          refine (end_any (B + 2) rest false _ HRd.out).mono ?_
          rintro e w10 ⟨rfl, rfl⟩
          generalize hee : endN rest false = ee at *
          clear hee
          go_wp2_with fail
          refine (left_any (B + 2) rest false _ HRd.out).mono ?_
          rintro e w10 ⟨rfl, rfl⟩
          go_wp2_with fail
          refine (raw_good (B + 2) rest.size rest _ HRd.out (Nat.le_refl _)).mono ?_
          rintro e w10 ⟨rfl, hr6, hg6⟩
          rw [whole rest]
          have ds6 := DS.out.grown hr6 hg6
          obtain ⟨⟨v0, c0⟩, f0⟩ := ds6.there rfl 17 (by omega)
          have ds7 := ds6.put 17 (.string rest)
          have DS := Lib.hid (show Ds w B (frA m1 m2 true y z v u rest) _ _ (w10.setCell ⟨B + 1, 17, none⟩ (.string rest)) from ds7)
          clear ds6 ds7 k15 hr6 hg6
          go_wp2_with (first
            | (refine wpList_load_row rfl 52 _ rfl (B + 1) rfl 52 _ (0, 0) _ DS.out.r1 Try.underlying52 rfl hi.out ?_)
            | (refine wpList_store_row rfl 52 _ _ rfl B (frA m1 m2 true y z v u rest) rfl rfl 52 nil18 DS.out.r0 hi.out rfl hon.out ?_))
          exact bodyPost_ret (v := .tuple #[.agg (frA m1 m2 true y z v u rest), .int .i64 0]) (results_row_tmp Try.results27 _ _ B 52 (frA m1 m2 true y z v u rest) _ _ rfl rfl (DS.out.r0.row _) Try.underlying52 rfl hi.out) rfl ⟨ret_frm E2.out E1.out.symm, by rw [HB.out]; exact below_setRow DS.out.below (Nat.le_refl _) _⟩

theorem decode_any (s : ByteArray) (w : World) : Calls Try.prog 27 #[.string s] w fun e w' => e = .returned (.tuple #[.agg (decA s), .int .i64 (decE s)]) ∧ Below w.heap.size w w' := by
  by_cases h : 1518 < s.size
  · exact decode_long s w h
  · exact decode_short s w h
end Go.Proofs.Ytegmhjdddcbanaa
