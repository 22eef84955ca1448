/- FrameCodes, walked: for every frame it returns true. -/
import Derived.Test.YtegmhjdddcbanaaDecEnc
import Derived.Test.YtegmhjdddcbanaaSpeaks4
import Derived.Deep.RegionHeld3
import Derived.Deep.DeepCutAuto
namespace Go.Proofs.Ytegmhjdddcbanaa
open Go.RowKit

theorem told_of {d s : Nat → Nat} {tg : Bool} {pc : Nat} {de : Bool} {vi ty : Nat} {da : ByteArray} {arr : Array Value} (h : arr = frA d s tg pc de vi ty da) (w : World) :
    Calls Try.prog 25 #[.agg arr] w fun e w' => e = .returned (.agg arr) ∧ Below w.heap.size w w' := by subst h; exact told_any d s tg pc de vi ty da w
theorem encode_of {d s : Nat → Nat} {tg : Bool} {pc : Nat} {de : Bool} {vi ty : Nat} {da : ByteArray} {arr : Array Value} (h : arr = frA d s tg pc de vi ty da) (w : World) (hd : Six d) (hs : Six s) (ht : ty < 65536) (hz : da.size ≤ 1600) :
    Calls Try.prog 24 #[.agg arr] w fun e w' => e = .returned (.tuple #[.string (encS d s tg pc de vi ty da), .int .i64 (encE tg pc de vi ty da)]) ∧ Below w.heap.size w w' := by subst h; exact encode_any d s tg pc de vi ty da w hd hs ht hz
theorem rencode_of {d s : Nat → Nat} {tg : Bool} {pc : Nat} {de : Bool} {vi ty : Nat} {da : ByteArray} {arr : Array Value} (h : arr = frA d s tg pc de vi ty da) (w : World) (hd : Six d) (hs : Six s) (ht : ty < 65536) (hz : da.size ≤ 1600) :
    Calls Try.prog 26 #[.agg arr] w fun e w' => e = .returned (.tuple #[.string (encS d s tg pc de vi ty da), .int .i64 (encE tg pc de vi ty da)]) ∧ Below w.heap.size w w' := by subst h; exact rencode_any d s tg pc de vi ty da w hd hs ht hz

theorem cut_size (da : ByteArray) (n : Nat) (h : n ≤ da.size) : (da.extract 0 n).size = n := by simp; omega

set_option maxRecDepth 100000 in
set_option maxHeartbeats 4000000 in
theorem codes_walk (d s : Nat → Nat) (tg : Bool) (pc : Nat) (de : Bool) (vi ty : Nat) (da : ByteArray) (w : World) (hd : Six d) (hs : Six s) (ht : ty < 65536) (hm : da.size ≤ maxLen) :
    Calls Try.prog 6 #[.agg (frA d s tg pc de vi ty da)] w fun e w' => e = .returned (.bool true) ∧ Below w.heap.size w w' := by
  obtain ⟨arr0, h0⟩ : ∃ arr, arr = frA d s tg pc de vi ty da := ⟨_, rfl⟩
  have a17 : arr0[17]? = some (.string da) := by rw [h0]; rfl
  have hB : Below w.heap.size w (w.alloc (Obj.cells arr0 48)) := (Below.refl _ _).alloc (Nat.le_refl _) _
  have r0 := Blk.new w arr0 48
  have H0 := Lib.hid h0
  have H6 := Lib.hid hd
  have K6 := Lib.hid hs
  rw [← h0]
  clear h0 hd hs
  obtain ⟨n, hn, hn1, hn2⟩ : ∃ n : Nat, n ≤ da.size ∧ n ≤ 1600 ∧ (da.size ≤ 1600 ∧ n = da.size ∨ 1600 < da.size ∧ n = 1600) := by
    by_cases c : da.size ≤ 1600
    · exact ⟨da.size, Nat.le_refl _, c, .inl ⟨c, rfl⟩⟩
    · exact ⟨1600, by omega, Nat.le_refl _, .inr ⟨by omega, rfl⟩⟩
  obtain ⟨db, hdb⟩ : ∃ db, db = da.extract 0 n := ⟨_, rfl⟩
  have zb : db.size ≤ 1600 := by rw [hdb, cut_size da n hn]; exact hn1
  obtain ⟨arr, harr⟩ : ∃ arr, arr = frA d s tg pc de vi ty db := ⟨_, rfl⟩
  have hset : arr0.setIfInBounds 17 (.string db) = arr := by rw [harr, H0.out]; rfl
  have HN := Lib.hid hn2
  have HDB := Lib.hid hdb
  have HA := Lib.hid harr
  have HSET := Lib.hid hset
  have ZB := Lib.hid zb
  have hml : (da.size : Int) ≤ 9223372036854775807 := by unfold maxLen at hm; omega
  have hsz8 := Lib.hid (show (Try.prog.info? 48).map (·.size) = some arr.size by rw [harr]; exact size48)
  have hsz2 := Lib.hid (show (Try.prog.info? 52).map (·.size) = some arr.size by rw [harr]; exact size52)
  have hone := Lib.hid (show arr.all (·.oneCell') = true by rw [harr]; exact frA_one _ _ _ _ _ _ _ _)
  have hzz := Lib.hid (show (18 : Nat) = arr.size by rw [harr]; rfl)
  clear hn hn1 hn2 hdb zb harr hset hm
  go_enter Try.func6, Try.ntmps6
  go_wp2_with fail
  refine (speaks4_any _).mono ?_
  rintro e w1 ⟨rfl, hb1⟩
  have hB1 := hB.trans (hb1.mono hB.size)
  have q0 := r0.below hb1 (by simp)
  have c17 : w1.cell? ⟨w.heap.size, 17, none⟩ = some (.string da) := by rw [q0.cell, a17]
  have f17 := q0.free 17
  clear hb1 hB r0
  generalize hge : w.heap.size = g at *
  have HG := Lib.hid hge
  clear hge
  go_upto_region 3 with fail
  go_cut [2] (fun s2 wx => s2 = .bool false ∧ Blk wx g arr 48 ∧ Below g w wx)
  case first =>
    have hq := q0.set 17 (.string db)
    rw [HSET.out] at hq
    have hbq : Below g w (w1.setCell ⟨g, 17, none⟩ (.string db)) := hB1.setCell (Nat.le_refl _) _
    have HQ := Lib.hid hq
    have HBQ := Lib.hid hbq
    have hcase := HN.out
    clear hq hbq q0 hB1
    rcases hcase with ⟨h1, h2⟩ | ⟨h1, h2⟩
    · have h1' : (da.size : Int) ≤ 1600 := by omega
      have HD2 := Lib.hid (show da.extract 0 da.size = db by rw [HDB.out, h2])
      clear h1 h2
      go_wp2_with fail
      go_meet
      have e : db = da := by rw [← HD2.out]; simp
      rw [e] at HQ HBQ
      exact ⟨rfl, HQ.out, HBQ.out⟩
    · have h1' : (1600 : Int) < (da.size : Int) := by omega
      have HD2 := Lib.hid (show da.extract 0 1600 = db by rw [HDB.out, h2])
      clear h1 h2
      go_wp2_with fail
      go_meet
      rw [HD2.out]
      exact ⟨rfl, HQ.out, HBQ.out⟩
  case rest =>
    obtain ⟨rfl, q1, hB2⟩ := hcut
    clear c17 f17 q0 hB1 a17
    obtain ⟨S, hS⟩ : ∃ S, S = encS d s tg pc de vi ty db := ⟨_, rfl⟩
    obtain ⟨E, hE⟩ : ∃ E, E = encE tg pc de vi ty db := ⟨_, rfl⟩
    have HS := Lib.hid hS
    have HE := Lib.hid hE
    have Q1 := Lib.hid q1
    have HB2 := Lib.hid hB2
    have hgw := q1.lt
    clear hS hE q1 hB2
    by_cases he : E = 0
    · have he' : (E != 0) = false := by simp [he]
      have DE := Lib.hid (dec_enc d s tg pc de vi ty db H6.out K6.out ht (by rw [← HE.out]; exact he))
      clear he
      go_upto_region 10 with (first
        | (refine wpList_load_row rfl 48 _ rfl g rfl 48 _ (0, 0) _ Q1.out Try.underlying48 rfl hsz8.out ?_)
        | (go_at_call 25; refine (told_of HA.out _).mono ?_; rintro e w2 ⟨rfl, hb2⟩
           have Q2 := Lib.hid (Q1.out.below hb2 Q1.out.lt))
        | (go_at_call 24; refine (encode_of HA.out _ H6.out K6.out ht ZB.out).mono ?_; rintro e w3 ⟨rfl, hb3⟩; rw [← HS.out, ← HE.out]
           have Q3 := Lib.hid (Q2.out.below hb3 Q2.out.lt))
        | (refine wpList_load_row rfl 48 _ rfl g rfl 48 _ (0, 0) _ Q3.out Try.underlying48 rfl hsz8.out ?_)
        | (go_at_call 26; refine (rencode_of HA.out _ H6.out K6.out ht ZB.out).mono ?_; rintro e w4 ⟨rfl, hb4⟩; rw [← HS.out, ← HE.out]
           have Q4 := Lib.hid (Q3.out.below hb4 Q3.out.lt)))
      have hB5 : Below g w w4 := by
        have hB3 := HB2.out.trans (hb2.mono (Nat.le_of_lt Q1.out.lt))
        have hB4 := hB3.trans (hb3.mono (Nat.le_of_lt Q2.out.lt))
        exact hB4.trans (hb4.mono (Nat.le_of_lt Q3.out.lt))
      have HB5 := Lib.hid hB5
      clear hB5 hb2 hb3 hb4 HB2 Q1 Q2 Q3 he'
      go_upto_region 11 with (first
        | (go_at_call 27; refine (decode_any S _).mono ?_; rintro e w5 ⟨rfl, hb5⟩; rw [HS.out, DE.out.1, DE.out.2, ← HS.out, ← HA.out]
           have R := Lib.hid (Blk.new w5 nil18 52))
        | (refine wpList_store_row rfl 52 _ _ rfl w5.heap.size arr rfl rfl 52 nil18 R.out hsz2.out hzz.out hone.out ?_))
      have rc := R.out.row arr
      have rg := ((Q4.out.below hb5 Q4.out.lt).alloc (.cells nil18 52)).rowOther (k := w5.heap.size) (by have := Q4.out.lt; have := hb5.size; omega) arr
      have hg5 : g ≤ w5.heap.size := by have := Q4.out.lt; have := hb5.size; omega
      have hB6 := below_setRow ((HB5.out.trans (hb5.mono (Nat.le_of_lt Q4.out.lt))).alloc hg5 (Obj.cells nil18 52)) hg5 arr
      obtain ⟨w6, hw6⟩ : ∃ w6, w6 = (w5.alloc (Obj.cells nil18 52)).setRow w5.heap.size arr := ⟨_, rfl⟩
      rw [← hw6] at rc rg hB6
      rw [← hw6]
      clear hw6 R hb5 hg5
      generalize w5.heap.size = c at *
      have heq : ∀ W, (Op.equalIn 10000 52 (.agg arr) (.agg arr)).run Try.prog W = .ok true W := fun W => by rw [HA.out]; exact equal_frame d s tg pc de vi ty db W
      have ks : Blk w6.drew c arr 52 ∧ Blk w6.drew g arr 48 ∧ Below g w w6.drew := ⟨rc.drew, rg.drew, hB6.drew⟩
      clear rc rg hB6 hgw
      refine wp_region_held_drew (S := fun w' => Blk w' c arr 52 ∧ Blk w' g arr 48 ∧ Below g w w') (by kernel_rfl) ks (fun hHeld => ?_)
      (refine wpAnyH_take (i := 0) (v := ?_) rfl (by kernel_rfl) (by kernel_rfl) (by kernel_rfl) (fun _ _ _ h => h) (Or.inl ⟨by rfl, ?_⟩) (by assumption) ?_; rotate_left; (· (intro w hSw; (try dsimp only at hSw); go_simp; try with_reducible rfl)); (try simp only [Act.put, List.getElem_toArray, List.getElem_cons_zero, List.setIfInBounds_toArray, List.set_cons_zero, List.set_cons_succ]))
      (refine wpAnyH_take (i := 1) (v := ?_) rfl (by kernel_rfl) (by kernel_rfl) (by kernel_rfl) (fun _ _ _ h => h) (Or.inl ⟨by rfl, ?_⟩) (by assumption) ?_; rotate_left; (· (intro w hSw; (try dsimp only at hSw); go_simp; try with_reducible rfl)); (try simp only [Act.put, List.getElem_toArray, List.getElem_cons_succ, List.getElem_cons_zero, List.setIfInBounds_toArray, List.set_cons_zero, List.set_cons_succ]))
      (refine wpAnyH_take (i := 2) (v := ?_) rfl (by kernel_rfl) (by kernel_rfl) (by kernel_rfl) (fun _ _ _ h => h) (Or.inl ⟨by rfl, ?_⟩) (by assumption) ?_; rotate_left; (· (intro w hSw; (try dsimp only at hSw); go_simp; try with_reducible rfl)); (try simp only [Act.put, List.getElem_toArray, List.getElem_cons_succ, List.getElem_cons_zero, List.setIfInBounds_toArray, List.set_cons_zero, List.set_cons_succ]))
      (refine wpAnyH_take (i := 3) (v := .agg arr) rfl (by kernel_rfl) (by kernel_rfl) (by kernel_rfl) (fun _ _ _ h => h) (Or.inl ⟨by rfl, fun w' hSw => run_loadVar_of 52 _ rfl c rfl 52 arr _ hSw.1 Try.underlying52 rfl hsz2.out⟩) (by assumption) ?_; (try simp only [Act.put, List.getElem_toArray, List.getElem_cons_succ, List.getElem_cons_zero, List.setIfInBounds_toArray, List.set_cons_zero, List.set_cons_succ]))
      (refine wpAnyH_take (i := 4) (v := .agg arr) rfl (by kernel_rfl) (by kernel_rfl) (by kernel_rfl) (fun _ _ _ h => h) (Or.inl ⟨by rfl, fun w' hSw => run_loadVar_of 48 _ rfl g rfl 48 arr _ hSw.2.1 Try.underlying48 rfl hsz8.out⟩) (by assumption) ?_; (try simp only [Act.put, List.getElem_toArray, List.getElem_cons_succ, List.getElem_cons_zero, List.setIfInBounds_toArray, List.set_cons_zero, List.set_cons_succ]))
      refine wpAnyH_ready (rs := [5]) (by kernel_rfl) (by simp) ?_
      refine AllReadyH.cons rfl (fun K hK => ?_) AllReadyH.nil
      go_simp
      refine (told_of HA.out _).mono ?_
      rintro e wx ⟨rfl, hbx⟩
      go_wp2_with fail
      refine hK.out _ _ ⟨ks.1.below hbx ks.1.lt, ks.2.1.below hbx ks.2.1.lt, ks.2.2.trans (hbx.mono (Nat.le_of_lt ks.2.1.lt))⟩ (fun hHeld => ?_)
      clear hK K
      (try simp only [Act.put, List.getElem_toArray, List.getElem_cons_succ, List.getElem_cons_zero, List.setIfInBounds_toArray, List.set_cons_zero, List.set_cons_succ])
      (refine wpAnyH_take (i := 6) (v := ?_) rfl (by kernel_rfl) (by kernel_rfl) (by kernel_rfl) (fun _ _ _ h => h) (Or.inl ⟨by rfl, ?_⟩) (by assumption) ?_; rotate_left; (· (intro w hSw; (try dsimp only at hSw); go_simp; try with_reducible rfl)); (try simp only [Act.put, List.getElem_toArray, List.getElem_cons_succ, List.getElem_cons_zero, List.setIfInBounds_toArray, List.set_cons_zero, List.set_cons_succ]))
      (refine wpAnyH_take (i := 7) (v := ?_) rfl (by kernel_rfl) (by kernel_rfl) (by kernel_rfl) (fun _ _ _ h => h) (Or.inl ⟨by rfl, ?_⟩) (by assumption) ?_; rotate_left; (· (intro w hSw; (try dsimp only at hSw); go_simp; try with_reducible rfl)); (try simp only [Act.put, List.getElem_toArray, List.getElem_cons_succ, List.getElem_cons_zero, List.setIfInBounds_toArray, List.set_cons_zero, List.set_cons_succ]))
      (refine wpAnyH_take (i := 8) (v := ?_) rfl (by kernel_rfl) (by kernel_rfl) (by kernel_rfl) (fun _ _ _ h => h) (Or.inl ⟨by rfl, ?_⟩) (by assumption) ?_; rotate_left; (· (intro w hSw; (try dsimp only at hSw); go_simp; try with_reducible rfl)); (try simp only [Act.put, List.getElem_toArray, List.getElem_cons_succ, List.getElem_cons_zero, List.setIfInBounds_toArray, List.set_cons_zero, List.set_cons_succ]))
      refine wpAnyH_done (by kernel_rfl) ?_ _
      have hend := hHeld.2.2
      go_wp2
      go_ret
      exact ⟨rfl, by rw [HG.out]; exact hend⟩
    · have he' : (E != 0) = true := by simp [he]
      clear he
      go_wp2_with (first
        | (refine wpList_load_row rfl 48 _ rfl g rfl 48 _ (0, 0) _ Q1.out Try.underlying48 rfl hsz8.out ?_)
        | (go_at_call 25; refine (told_of HA.out _).mono ?_; rintro e w2 ⟨rfl, hb2⟩
           have Q2 := Lib.hid (Q1.out.below hb2 Q1.out.lt))
        | (go_at_call 24; refine (encode_of HA.out _ H6.out K6.out ht ZB.out).mono ?_; rintro e w3 ⟨rfl, hb3⟩; rw [← HS.out, ← HE.out]
           have Q3 := Lib.hid (Q2.out.below hb3 Q2.out.lt))
        | (refine wpList_load_row rfl 48 _ rfl g rfl 48 _ (0, 0) _ Q3.out Try.underlying48 rfl hsz8.out ?_)
        | (go_at_call 26; refine (rencode_of HA.out _ H6.out K6.out ht ZB.out).mono ?_; rintro e w4 ⟨rfl, hb4⟩; rw [← HS.out, ← HE.out]
           have Q4 := Lib.hid (Q3.out.below hb4 Q3.out.lt)))
      go_ret
      have hB3 := HB2.out.trans (hb2.mono (Nat.le_of_lt Q1.out.lt))
      have hB4 := hB3.trans (hb3.mono (Nat.le_of_lt Q2.out.lt))
      exact ⟨rfl, by rw [HG.out]; exact hB4.trans (hb4.mono (Nat.le_of_lt Q3.out.lt))⟩
end Go.Proofs.Ytegmhjdddcbanaa
