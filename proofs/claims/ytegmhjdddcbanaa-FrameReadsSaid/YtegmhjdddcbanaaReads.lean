/- FrameReads, walked: for every text it returns true. -/
import Derived.Test.YtegmhjdddcbanaaRDec
import Derived.Test.YtegmhjdddcbanaaEncDec
import Derived.Test.YtegmhjdddcbanaaCodes
namespace Go.Proofs.Ytegmhjdddcbanaa
open Go.RowKit

set_option maxRecDepth 100000 in
set_option maxHeartbeats 4000000 in
theorem reads_walk (s0 : ByteArray) (w : World) (hm : s0.size ≤ maxLen) :
    Calls Try.prog 7 #[.string s0] w fun e w' => e = .returned (.bool true) ∧ Below w.heap.size w w' := by
  obtain ⟨n, hn, hn2⟩ : ∃ n : Nat, n ≤ s0.size ∧ (s0.size ≤ 1600 ∧ n = s0.size ∨ 1600 < s0.size ∧ n = 1600) := by
    by_cases c : s0.size ≤ 1600
    · exact ⟨s0.size, Nat.le_refl _, .inl ⟨c, rfl⟩⟩
    · exact ⟨1600, by omega, .inr ⟨by omega, rfl⟩⟩
  obtain ⟨s, hs⟩ : ∃ s, s = s0.extract 0 n := ⟨_, rfl⟩
  have HN := Lib.hid hn2
  have HS := Lib.hid hs
  have hml : (s0.size : Int) ≤ 9223372036854775807 := by unfold maxLen at hm; omega
  clear hn hn2 hs hm
  go_enter Try.func7, Try.ntmps7
  go_wp2_with fail
  refine (speaks4_any _).mono ?_
  rintro e w1 ⟨rfl, hb1⟩
  go_upto_region 3 with fail
  go_cut [0] (fun s2 wx => s2 = .string s ∧ wx = w1)
  case first =>
    rcases HN.out with ⟨h1, h2⟩ | ⟨h1, h2⟩
    · have h1' : (s0.size : Int) ≤ 1600 := by omega
      have HD2 := Lib.hid (show s0.extract 0 s0.size = s by rw [HS.out, h2])
      clear h1 h2
      go_wp2_with fail
      go_meet
      have e : s = s0 := by rw [← HD2.out]; simp
      rw [e]
      exact ⟨rfl, rfl⟩
    · have h1' : (1600 : Int) < (s0.size : Int) := by omega
      have HD2 := Lib.hid (show s0.extract 0 1600 = s by rw [HS.out, h2])
      clear h1 h2
      go_wp2_with fail
      go_meet
      rw [HD2.out]
      exact ⟨rfl, rfl⟩
  case rest =>
    obtain ⟨rfl, rfl⟩ := hcut
    clear HN HS hml
    obtain ⟨d, k, tg, pc, de, vi, ty, da, hA, H6, K6, ht, zb, hback⟩ := dec_is s
    obtain ⟨arr, harr⟩ : ∃ arr, arr = decA s := ⟨_, rfl⟩
    have DA := Lib.hid harr
    rw [hA] at harr
    have HA := Lib.hid harr
    have H6 := Lib.hid H6
    have K6 := Lib.hid K6
    have ZB := Lib.hid zb
    have HBK := Lib.hid hback
    have hsz6 := Lib.hid (show (Try.prog.info? 56).map (·.size) = some arr.size by rw [harr]; exact size56)
    have hsz2 := Lib.hid (show (Try.prog.info? 52).map (·.size) = some arr.size by rw [harr]; exact size52)
    have hone := Lib.hid (show arr.all (·.oneCell') = true by rw [harr]; exact frA_one _ _ _ _ _ _ _ _)
    have hzz := Lib.hid (show (18 : Nat) = arr.size by rw [harr]; rfl)
    have heq : ∀ W, (Op.equalIn 10000 52 (.agg arr) (.agg arr)).run Try.prog W = .ok true W := fun W => by rw [HA.out]; exact equal_frame d k tg pc de vi ty da W
    have HEQ := Lib.hid heq
    obtain ⟨E, hE⟩ : ∃ E, E = decE s := ⟨_, rfl⟩
    have HE := Lib.hid hE
    clear hA harr zb hback hE heq
    have HB1 := Lib.hid hb1
    clear hb1
    go_upto_region 5 with (first
      | (go_at_call 27; refine (decode_any s _).mono ?_; rintro e w2 ⟨rfl, hb2⟩; rw [← DA.out, ← HE.out]
         have R := Lib.hid (Blk.new w2 nil18 52))
      | (refine wpList_store_row rfl 52 _ _ rfl w2.heap.size arr rfl rfl 52 nil18 R.out hsz2.out hzz.out hone.out ?_))
    have rc := R.out.row arr
    have hg2 : w.heap.size ≤ w2.heap.size := Nat.le_trans HB1.out.size hb2.size
    have hB3 := below_setRow ((HB1.out.trans (hb2.mono HB1.out.size)).alloc hg2 (Obj.cells nil18 52)) hg2 arr
    obtain ⟨w3, hw3⟩ : ∃ w3, w3 = (w2.alloc (Obj.cells nil18 52)).setRow w2.heap.size arr := ⟨_, rfl⟩
    rw [← hw3] at rc hB3
    rw [← hw3]
    have Q3 := Lib.hid rc
    have HB3 := Lib.hid hB3
    clear hw3 R hb2 rc hB3 hg2 HB1
    generalize w2.heap.size = c at *
    go_upto_region 6 with (first
      | (go_at_call 28; refine (rdecode_any s _).mono ?_; rintro e w4 ⟨rfl, hb4⟩; rw [← DA.out, ← HE.out]
         have R := Lib.hid (Blk.new w4 nil18 56))
      | (refine wpList_store_row rfl 56 _ _ rfl w4.heap.size arr rfl rfl 56 nil18 R.out hsz6.out hzz.out hone.out ?_))
    have rc := R.out.row arr
    have hc4 : c < w4.heap.size := Nat.lt_of_lt_of_le Q3.out.lt hb4.size
    have rg := ((Q3.out.below hb4 Q3.out.lt).alloc (.cells nil18 56)).rowOther (k := w4.heap.size) (Nat.ne_of_lt hc4) arr
    have hg4 : w.heap.size ≤ w4.heap.size := Nat.le_trans HB3.out.size hb4.size
    have hB5 := below_setRow ((HB3.out.trans (hb4.mono HB3.out.size)).alloc hg4 (Obj.cells nil18 56)) hg4 arr
    obtain ⟨w5, hw5⟩ : ∃ w5, w5 = (w4.alloc (Obj.cells nil18 56)).setRow w4.heap.size arr := ⟨_, rfl⟩
    rw [← hw5] at rc rg hB5
    rw [← hw5]
    clear hw5 R hb4 hg4 Q3 HB3 hc4
    generalize w4.heap.size = c2 at *
    have heq := HEQ.out
    have Q5 := Lib.hid rg
    have HB5 := Lib.hid hB5
    have hq5 := hB5.size
    have ks : Blk w5.drew c arr 52 ∧ Blk w5.drew c2 arr 56 ∧ Below w.heap.size w w5.drew := ⟨rg.drew, rc.drew, hB5.drew⟩
    refine wp_region_held_drew (S := fun w' => Blk w' c arr 52 ∧ Blk w' c2 arr 56 ∧ Below w.heap.size w w') (by kernel_rfl) ks (fun hHeld => ?_)
    (refine wpAnyH_take (i := 0) (v := ?_) rfl (by kernel_rfl) (by kernel_rfl) (by kernel_rfl) (fun _ _ _ h => h) (Or.inl ⟨by rfl, ?_⟩) (by assumption) ?_; rotate_left; (· (intro w hSw; (try dsimp only at hSw); go_simp; try with_reducible rfl)); (try simp only [Act.put, List.getElem_toArray, List.getElem_cons_zero, List.setIfInBounds_toArray, List.set_cons_zero, List.set_cons_succ]))
    (refine wpAnyH_take (i := 1) (v := ?_) rfl (by kernel_rfl) (by kernel_rfl) (by kernel_rfl) (fun _ _ _ h => h) (Or.inl ⟨by rfl, ?_⟩) (by assumption) ?_; rotate_left; (· (intro w hSw; (try dsimp only at hSw); go_simp; try with_reducible rfl)); (try simp only [Act.put, List.getElem_toArray, List.getElem_cons_succ, List.getElem_cons_zero, List.setIfInBounds_toArray, List.set_cons_zero, List.set_cons_succ]))
    (refine wpAnyH_take (i := 2) (v := ?_) rfl (by kernel_rfl) (by kernel_rfl) (by kernel_rfl) (fun _ _ _ h => h) (Or.inl ⟨by rfl, ?_⟩) (by assumption) ?_; rotate_left; (· (intro w hSw; (try dsimp only at hSw); go_simp; try with_reducible rfl)); (try simp only [Act.put, List.getElem_toArray, List.getElem_cons_succ, List.getElem_cons_zero, List.setIfInBounds_toArray, List.set_cons_zero, List.set_cons_succ]))
    (refine wpAnyH_take (i := 3) (v := ?_) rfl (by kernel_rfl) (by kernel_rfl) (by kernel_rfl) (fun _ _ _ h => h) (Or.inl ⟨by rfl, ?_⟩) (by assumption) ?_; rotate_left; (· (intro w hSw; (try dsimp only at hSw); go_simp; try with_reducible rfl)); (try simp only [Act.put, List.getElem_toArray, List.getElem_cons_succ, List.getElem_cons_zero, List.setIfInBounds_toArray, List.set_cons_zero, List.set_cons_succ]))
    (refine wpAnyH_take (i := 4) (v := .agg arr) rfl (by kernel_rfl) (by kernel_rfl) (by kernel_rfl) (fun _ _ _ h => h) (Or.inl ⟨by rfl, fun w' hSw => run_loadVar_of 52 _ rfl c rfl 52 arr _ hSw.1 Try.underlying52 rfl hsz2.out⟩) (by assumption) ?_; (try simp only [Act.put, List.getElem_toArray, List.getElem_cons_succ, List.getElem_cons_zero, List.setIfInBounds_toArray, List.set_cons_zero, List.set_cons_succ]))
    (refine wpAnyH_take (i := 5) (v := .agg arr) rfl (by kernel_rfl) (by kernel_rfl) (by kernel_rfl) (fun _ _ _ h => h) (Or.inl ⟨by rfl, fun w' hSw => run_loadVar_of 56 _ rfl c2 rfl 56 arr _ hSw.2.1 Try.underlying56 rfl hsz6.out⟩) (by assumption) ?_; (try simp only [Act.put, List.getElem_toArray, List.getElem_cons_succ, List.getElem_cons_zero, List.setIfInBounds_toArray, List.set_cons_zero, List.set_cons_succ]))
    refine wpAnyH_ready (rs := [6]) (by kernel_rfl) (by simp) ?_
    refine AllReadyH.cons rfl (fun K hK => ?_) AllReadyH.nil
    go_simp
    refine (told_of HA.out _).mono ?_
    rintro e wx ⟨rfl, hbx⟩
    go_wp2_with fail
    refine hK.out _ _ ⟨ks.1.below hbx ks.1.lt, ks.2.1.below hbx ks.2.1.lt, ks.2.2.trans (hbx.mono ks.2.2.size)⟩ (fun hHeld => ?_)
    clear hK K
    (try simp only [Act.put, List.getElem_toArray, List.getElem_cons_succ, List.getElem_cons_zero, List.setIfInBounds_toArray, List.set_cons_zero, List.set_cons_succ])
    (refine wpAnyH_take (i := 7) (v := ?_) rfl (by kernel_rfl) (by kernel_rfl) (by kernel_rfl) (fun _ _ _ h => h) (Or.inl ⟨by rfl, ?_⟩) (by assumption) ?_; rotate_left; (· (intro w hSw; (try dsimp only at hSw); go_simp; try with_reducible rfl)); (try simp only [Act.put, List.getElem_toArray, List.getElem_cons_succ, List.getElem_cons_zero, List.setIfInBounds_toArray, List.set_cons_zero, List.set_cons_succ]))
    (refine wpAnyH_take (i := 8) (v := ?_) rfl (by kernel_rfl) (by kernel_rfl) (by kernel_rfl) (fun _ _ _ h => h) (Or.inl ⟨by rfl, ?_⟩) (by assumption) ?_; rotate_left; (· (intro w hSw; (try dsimp only at hSw); go_simp; try with_reducible rfl)); (try simp only [Act.put, List.getElem_toArray, List.getElem_cons_succ, List.getElem_cons_zero, List.setIfInBounds_toArray, List.set_cons_zero, List.set_cons_succ]))
    refine wpAnyH_done (by kernel_rfl) ?_ _
    have Q6 := Lib.hid hHeld.1
    have HB6 := Lib.hid hHeld.2.2
    clear hHeld hbx ks rg rc heq hq5 hB5
    obtain ⟨S, hS⟩ : ∃ S, S = encS d k tg pc de vi ty da := ⟨_, rfl⟩
    obtain ⟨E2, hE2⟩ : ∃ E, E = encE tg pc de vi ty da := ⟨_, rfl⟩
    have HS := Lib.hid hS
    have HE2 := Lib.hid hE2
    clear hS hE2
    by_cases he : E = 0
    · have hb := HBK.out (by rw [← HE.out]; exact he)
      have e2 : E2 = 0 := by rw [HE2.out]; exact hb.1
      have eS : S = s := by rw [HS.out]; exact hb.2
      have q1 : (E != 0) = false := by simp [he]
      have q2 : (E2 == 0) = true := by simp [e2]
      have HS2 := Lib.hid eS
      clear he e2 eS hb
      go_upto_region 9 with (first
        | (refine wpList_load_row rfl 52 _ rfl c rfl 52 _ (0, 0) _ Q6.out Try.underlying52 rfl hsz2.out ?_)
        | (go_at_call 24; refine (encode_of HA.out _ H6.out K6.out ht ZB.out).mono ?_; rintro e w7 ⟨rfl, hb7⟩; rw [← HS.out, ← HE2.out]))
      have hend := HB6.out.trans (hb7.mono HB6.out.size)
      have HEnd := Lib.hid hend
      clear hend hb7
      rw [HS2.out]
      go_wp2_with fail
      go_ret
      exact ⟨rfl, HEnd.out⟩
    · have q1 : (E != 0) = true := by simp [he]
      clear he
      go_upto_region 9 with (first
        | (refine wpList_load_row rfl 52 _ rfl c rfl 52 _ (0, 0) _ Q6.out Try.underlying52 rfl hsz2.out ?_)
        | (go_at_call 24; refine (encode_of HA.out _ H6.out K6.out ht ZB.out).mono ?_; rintro e w7 ⟨rfl, hb7⟩; rw [← HS.out, ← HE2.out]))
      have hend := HB6.out.trans (hb7.mono HB6.out.size)
      have HEnd := Lib.hid hend
      clear hend hb7
      go_wp2_with fail
      go_ret
      exact ⟨rfl, HEnd.out⟩
end Go.Proofs.Ytegmhjdddcbanaa
