/- The document's own Good and Drop of layer 10. -/
import Derived.Test.YtilklfmcdgggfaaS10
import Derived.Test.YtilklfmcdgggfaaTell
import Derived.Deep.RegionHeld3
import Derived.IntWalk
namespace Go.Proofs.Ytilklfmcdgggfaa
open Go.RowKit
set_option linter.unusedSimpArgs false
set_option linter.unusedVariables false

/-- May it be? The error's number. -/
def goodS (x : Se) : Int := if x.vid < 1 ∨ 4094 < x.vid then 15 else if resB (byteF x.mac) = true then 6 else if 65535 < x.prt then 14 else 0

set_option maxRecDepth 100000 in
set_option maxHeartbeats 4000000 in
theorem rgood10 (x : Se) (w : World) : Calls Try.prog 52 #[seV x] w fun e w' => e = .returned (.int .i64 (goodS x)) ∧ Below w.heap.size w w' := by
  obtain ⟨vid, a, prt⟩ := x
  have HB := Lib.hid ((Below.refl w.heap.size w).alloc (Nat.le_refl _) (.cells (seA ⟨vid, a, prt⟩) 83))
  by_cases h1 : vid < 1
  · have R := Lib.hid (show (15 : Int) = goodS ⟨vid, a, prt⟩ by unfold goodS; rw [if_pos (.inl h1)])
    have e1 : decide ((vid : Int) < 1) = true := by rw [decide_eq_true_eq]; omega
    clear h1
    go_enter Try.func52, Try.ntmps52
    go_wp2
    go_ret
    exact ⟨ret_int R.out, HB.out⟩
  have e1 : decide ((vid : Int) < 1) = false := by rw [decide_eq_false_iff_not]; omega
  by_cases h2 : 4094 < vid
  · have R := Lib.hid (show (15 : Int) = goodS ⟨vid, a, prt⟩ by unfold goodS; rw [if_pos (.inr h2)])
    have e2 : decide (4094 < (vid : Int)) = true := by rw [decide_eq_true_eq]; omega
    clear h1 h2
    go_enter Try.func52, Try.ntmps52
    go_wp2
    go_ret
    exact ⟨ret_int R.out, HB.out⟩
  have e2 : decide (4094 < (vid : Int)) = false := by rw [decide_eq_false_iff_not]; omega
  have hnv : ¬ (vid < 1 ∨ 4094 < vid) := by omega
  cases h3 : resB (byteF a) with
  | true =>
    have R := Lib.hid (show (6 : Int) = goodS ⟨vid, a, prt⟩ by unfold goodS; rw [if_neg hnv, if_pos h3])
    have H3 := Lib.hid h3
    clear h1 h2 hnv h3
    go_enter Try.func52, Try.ntmps52
    go_wp2_with (go_at_call 64; refine (rreserved_any (byteF a) _).mono ?_; rintro e w1 ⟨rfl, hb1⟩; rw [H3.out])
    go_ret
    exact ⟨ret_int R.out, HB.out.trans (hb1.mono HB.out.size)⟩
  | false =>
    by_cases h4 : 65535 < prt
    · have R := Lib.hid (show (14 : Int) = goodS ⟨vid, a, prt⟩ by unfold goodS; rw [if_neg hnv, if_neg (by rw [h3]; decide), if_pos h4])
      have H3 := Lib.hid h3
      have e4 : decide (65535 < (prt : Int)) = true := by rw [decide_eq_true_eq]; omega
      clear h1 h2 hnv h3 h4
      have K0 := Lib.hid (Blk.new w (seA ⟨vid, a, prt⟩) 83)
      go_enter Try.func52, Try.ntmps52
      go_upto_region 5 with (go_at_call 64; refine (rreserved_any (byteF a) _).mono ?_; rintro e w1 ⟨rfl, hb1⟩; rw [H3.out])
      have c7 : w1.cell? ⟨w.heap.size, 7, none⟩ = some (.int .u32 (prt : Nat)) := by rw [(K0.out.below hb1 K0.out.lt).cell 7]; rfl
      have HB1 := Lib.hid hb1
      clear hb1
      go_wp2
      go_ret
      exact ⟨ret_int R.out, HB.out.trans (HB1.out.mono HB.out.size)⟩
    · have R := Lib.hid (show (0 : Int) = goodS ⟨vid, a, prt⟩ by unfold goodS; rw [if_neg hnv, if_neg (by rw [h3]; decide), if_neg h4])
      have H3 := Lib.hid h3
      have e4 : decide (65535 < (prt : Int)) = false := by rw [decide_eq_false_iff_not]; omega
      clear h1 h2 hnv h3 h4
      have K0 := Lib.hid (Blk.new w (seA ⟨vid, a, prt⟩) 83)
      go_enter Try.func52, Try.ntmps52
      go_upto_region 5 with (go_at_call 64; refine (rreserved_any (byteF a) _).mono ?_; rintro e w1 ⟨rfl, hb1⟩; rw [H3.out])
      have c7 : w1.cell? ⟨w.heap.size, 7, none⟩ = some (.int .u32 (prt : Nat)) := by rw [(K0.out.below hb1 K0.out.lt).cell 7]; rfl
      have HB1 := Lib.hid hb1
      clear hb1
      go_wp2
      go_ret
      exact ⟨ret_int R.out, HB.out.trans (HB1.out.mono HB.out.size)⟩

theorem senfo : (Try.prog.info? 83).map (fun i => (i.zero, i.size, i.bytes)) = some (some (.agg #[.int .u16 0, .int .u8 0, .int .u8 0, .int .u8 0, .int .u8 0, .int .u8 0, .int .u8 0, .int .u32 0]), 8, 12) := by kernel_rfl

/-- A list of one's own, and an error's number. -/
def OwnS (w : World) (base : Nat) (l : List Se) (err : Int) (e : Ending) (w' : World) : Prop :=
  ∃ v', e = .returned (.tuple #[v', .int .i64 err]) ∧ Own w' base 83 8 seC v' l ∧ Below w.heap.size w w'
theorem ret_own {v : Value} {a b : Int} (h : a = b) : Ending.returned (.tuple #[v, .int .i64 a]) = .returned (.tuple #[v, .int .i64 b]) := by rw [h]

/-- Without the one of a key; the error's number. -/
def dropSE (l : List Se) (v : Nat) : Int := if atK seK v l < 0 then 11 else 0

set_option maxHeartbeats 4000000 in
theorem rdrop10_none (base vid a : Nat) (ha : a < 281474976710656) (v : Value) (l : List Se) (w : World) (h : Own w base 83 8 seC v l) (hok : ∀ x ∈ l, seOk x) (hl : l.length ≤ 1000) (hn : atK seK (keyN vid a) l < 0) :
    Calls Try.prog 30 #[v, .int .u16 (vid : Nat), mac (byteF a)] w (OwnS w base (cutK seK (keyN vid a) l) (dropSE l (keyN vid a))) := by
  have R1 := Lib.hid (show cutK seK (keyN vid a) l = l by unfold cutK; rw [if_pos hn])
  have R2 := Lib.hid (show (11 : Int) = dropSE l (keyN vid a) by unfold dropSE; rw [if_pos hn])
  have H := Lib.hid h
  have hb0 := (Below.refl w.heap.size w).alloc (Nat.le_refl _) (.cells (macA (byteF a)) 31)
  have HB := Lib.hid hb0
  have H0 := Lib.hid (h.next hb0)
  obtain ⟨q, hq⟩ : ∃ q, q = atK seK (keyN vid a) l := ⟨_, rfl⟩
  rw [← hq] at hn
  have HQ := Lib.hid hq
  have HAT := Lib.hid (rat10_any base vid a ha v l _ H0.out hok hl)
  rw [← hq] at HAT
  have hn2 : decide (q < 0) = true := by simpa using hn
  clear h hn hb0 hq hok
  go_enter Try.func30, Try.ntmps30
  go_wp2_with (go_at_call 32; refine HAT.out.mono ?_; rintro e w1 ⟨rfl, hb1⟩)
  go_ret2
  exact ⟨_, ret_own R2.out, by rw [R1.out]; exact H0.out.next hb1, HB.out.trans (hb1.mono HB.out.size)⟩

set_option maxRecDepth 100000 in
set_option maxHeartbeats 4000000 in
theorem rdrop10_own (base g cap vid a k : Nat) (ha : a < 281474976710656) (l : List Se) (w : World) (h : Own w base 83 8 seC (.slice (some ⟨g, 0, none⟩) l.length cap) l) (hok : ∀ x ∈ l, seOk x) (hcap : l.length ≤ cap ∧ cap ≤ maxLen) (hb : base ≤ w.heap.size) (hl : l.length ≤ 100)
    (hk : atK seK (keyN vid a) l = k) (hkl : k < l.length) :
    Calls Try.prog 30 #[.slice (some ⟨g, 0, none⟩) l.length cap, .int .u16 (vid : Nat), mac (byteF a)] w (OwnS w base (cutK seK (keyN vid a) l) (dropSE l (keyN vid a))) := by
  have R1 := Lib.hid (show cutK seK (keyN vid a) l = l.eraseIdx k by unfold cutK; rw [hk, if_neg (by omega)]; simp)
  have R2 := Lib.hid (show (0 : Int) = dropSE l (keyN vid a) by unfold dropSE; rw [hk, if_neg (by omega)])
  have hb0 := (Below.refl w.heap.size w).alloc (Nat.le_refl _) (.cells (macA (byteF a)) 31)
  have BW0 := Lib.hid hb0
  have HAT := rat10_any base vid a ha _ l _ (h.next hb0) hok (by omega)
  rw [hk] at HAT
  obtain ⟨i, hi, hz, hsz, hby⟩ := info_parts senfo
  have HZ := Lib.hid hz
  have HS := Lib.hid hsz
  have HBY := Lib.hid hby
  have HI := Lib.hid hi
  obtain ⟨n, hn⟩ : ∃ n, l.length = n := ⟨_, rfl⟩
  rw [hn] at h hkl hcap hl HAT ⊢
  have HATH := Lib.hid HAT
  have H0 := Lib.hid (h.next hb0)
  have HN := Lib.hid hn
  have hkn : (k : Int) < n := by omega
  have hnc : (n : Int) ≤ cap := by omega
  have hcm : (cap : Int) ≤ 9223372036854775807 := by unfold maxLen at hcap; omega
  have HCAP := Lib.hid hcap
  have HB := Lib.hid hb
  have HL := Lib.hid hl
  have KN := Lib.hid hkl
  clear hz hsz hby hi h hn hk hcap hkl hb hl HAT hb0 hok
  go_enter Try.func30, Try.ntmps30
  go_upto_region 4 with (go_at_call 32; refine HATH.out.mono ?_; rintro e w1 ⟨rfl, hb1⟩)
  generalize decide ((k : Int) < 0) = bb at *
  have H := Lib.hid (H0.out.next hb1)
  have BW := Lib.hid (BW0.out.trans (hb1.mono BW0.out.size))
  clear hb1 BW0 H0 HATH
  have KC := Lib.hid (show k ≤ cap by omega)
  have KW := Lib.hid (show IntKind.i64.wrap ((k : Int) + 1) = (k : Int) + 1 from IntWalk.i64_in _ (by omega))
  have K1 := Lib.hid (show (0 : Int) ≤ (k : Int) + 1 by omega)
  have K2 := Lib.hid (show (k : Int) + 1 ≤ n by omega)
  have K3 := Lib.hid (show ((k : Int) + 1).toNat = k + 1 by omega)
  clear hkn hnc hcm
  refine wp_region_held_drew (S := fun _ => True) (by kernel_rfl) trivial (fun hHeld => ?_)
  clear hHeld
  (refine wpAnyH_take (i := 1) (v := ?_) rfl (by kernel_rfl) (by kernel_rfl) (by kernel_rfl) (fun _ _ _ h => h) (Or.inl ⟨by rfl, ?_⟩) trivial ?_; rotate_left; (· (intro w1 hSw; go_simp; try with_reducible rfl)); (try simp only [Act.put, List.getElem_toArray, List.getElem_cons_succ, List.getElem_cons_zero, List.setIfInBounds_toArray, List.set_cons_zero, List.set_cons_succ]))
  (refine wpAnyH_take (i := 2) (v := ?_) rfl (by kernel_rfl) (by kernel_rfl) (by kernel_rfl) (fun _ _ _ h => h) (Or.inl ⟨by rfl, ?_⟩) trivial ?_; rotate_left; (· (intro w1 hSw; go_simp; try with_reducible rfl)); (try simp only [Act.put, List.getElem_toArray, List.getElem_cons_succ, List.getElem_cons_zero, List.setIfInBounds_toArray, List.set_cons_zero, List.set_cons_succ]))
  (refine wpAnyH_take (i := 3) (v := ?_) rfl (by kernel_rfl) (by kernel_rfl) (by kernel_rfl) (fun _ _ _ h => h) (Or.inl ⟨by rfl, ?_⟩) trivial ?_; rotate_left; (· (intro w1 hSw; have e := KC.out; go_simp; try with_reducible rfl)); (try simp only [Act.put, List.getElem_toArray, List.getElem_cons_succ, List.getElem_cons_zero, List.setIfInBounds_toArray, List.set_cons_zero, List.set_cons_succ]))
  (refine wpAnyH_take (i := 5) (v := ?_) rfl (by kernel_rfl) (by kernel_rfl) (by kernel_rfl) (fun _ _ _ h => h) (Or.inl ⟨by rfl, ?_⟩) trivial ?_; rotate_left; (· (intro w1 hSw; go_simp; try with_reducible rfl)); (try simp only [Act.put, List.getElem_toArray, List.getElem_cons_succ, List.getElem_cons_zero, List.setIfInBounds_toArray, List.set_cons_zero, List.set_cons_succ]))
  (refine wpAnyH_take (i := 6) (v := ?_) rfl (by kernel_rfl) (by kernel_rfl) (by kernel_rfl) (fun _ _ _ h => h) (Or.inl ⟨by rfl, ?_⟩) trivial ?_; rotate_left; (· (intro w1 hSw; go_simp; try with_reducible rfl)); (try simp only [Act.put, List.getElem_toArray, List.getElem_cons_succ, List.getElem_cons_zero, List.setIfInBounds_toArray, List.set_cons_zero, List.set_cons_succ]))
  (refine wpAnyH_take (i := 7) (v := ?_) rfl (by kernel_rfl) (by kernel_rfl) (by kernel_rfl) (fun _ _ _ h => h) (Or.inl ⟨by rfl, ?_⟩) trivial ?_; rotate_left; (· (intro w1 hSw; have e := KW.out; go_simp; try with_reducible rfl)); (try simp only [Act.put, List.getElem_toArray, List.getElem_cons_succ, List.getElem_cons_zero, List.setIfInBounds_toArray, List.set_cons_zero, List.set_cons_succ]))
  (refine wpAnyH_take (i := 8) (v := ?_) rfl (by kernel_rfl) (by kernel_rfl) (by kernel_rfl) (fun _ _ _ h => h) (Or.inl ⟨by rfl, ?_⟩) trivial ?_; rotate_left; (· (intro w1 hSw; have e1 := K1.out; have e2 := K2.out; have e3 := K3.out; go_simp; try with_reducible rfl)); (try simp only [Act.put, List.getElem_toArray, List.getElem_cons_succ, List.getElem_cons_zero, List.setIfInBounds_toArray, List.set_cons_zero, List.set_cons_succ]))
  refine wpAnyH_ready (rs := [0]) (by kernel_rfl) (by simp) ?_
  refine AllReadyH.cons rfl (fun K hK => ?_) AllReadyH.nil
  go_simp
  refine hK.out _ _ trivial (fun hHeld => ?_)
  clear hK K hHeld
  (try simp only [Act.put, List.getElem_toArray, List.getElem_cons_succ, List.getElem_cons_zero, List.setIfInBounds_toArray, List.set_cons_zero, List.set_cons_succ])
  have O1 := Lib.hid (show Own (w1.alloc (Obj.cells #[] 83)).drew w1.heap.size 83 8 seC (.slice (some ⟨w1.heap.size, 0, none⟩) 0 0) [] from (Own.made w1 (Nat.le_refl _) seC).drew)
  have H1 := Lib.hid (show Own (w1.alloc (Obj.cells #[] 83)).drew base 83 8 seC (.slice (some ⟨g, 0, none⟩) l.length cap) l by have := (H.out.alloc (.cells #[] 83)).drew; rw [← HN.out] at this; exact this)
  have B1 := Lib.hid (show Below w1.heap.size w1 (w1.alloc (Obj.cells #[] 83)).drew from ((Below.refl _ _).alloc (Nat.le_refl _) _).drew)
  have z1 : w1.heap.size ≤ (w1.alloc (Obj.cells #[] 83)).drew.heap.size := B1.out.size
  have gl := Lib.hid (H.out.lt g rfl).2
  generalize (w1.alloc (Obj.cells #[] 83)).drew = wA at *
  obtain ⟨v2, w2, hrun, o2, hg2, hv2⟩ := O1.out.app (P := Try.prog) (t := 70) (ty := 70) (H1.out.head (k := k) (c := cap) seC_len (by have := KN.out; have := HN.out; omega)) Try.underlying70 HI.out HZ.out HS.out HBY.out rfl (by omega) seC_len seC_one
    (by unfold maxLen; rw [List.length_take]; have := KN.out; have := HL.out; simp; omega) (by rw [List.length_take]; have := KN.out; have := HL.out; simp; omega) z1
  refine wpAnyH_ready (rs := [4]) (by kernel_rfl) (by simp) ?_
  refine AllReadyH.cons rfl (fun K hK => ?_) AllReadyH.nil
  rw [if_pos (by rfl)]
  refine wp_append_lst _ _ 70 rfl v2 w2 hrun ?_
  refine hK.out _ _ trivial (fun hHeld => ?_)
  clear hK K hHeld hrun
  (try simp only [Act.put, List.getElem_toArray, List.getElem_cons_succ, List.getElem_cons_zero, List.setIfInBounds_toArray, List.set_cons_zero, List.set_cons_succ])
  have H2 := Lib.hid (H1.out.kept hg2 (.inr (fun q => by have := gl.out; simp [Value.ownBlock] at q; omega)))
  have O2 := Lib.hid o2
  have b2 := B1.out.trans (grown_below hg2 (fun i hi => by simp [Value.ownBlock] at hi; omega) z1)
  have B2 := Lib.hid b2
  have z2 := b2.size
  clear b2 o2 hv2 hg2 H1 O1 B1 z1
  obtain ⟨v3, w3, hrun, o3, hg3, hv3⟩ := O2.out.app (P := Try.prog) (t := 70) (ty := 70) (H2.out.tail (k := k + 1) (c := cap - (k + 1)) seC_len (by have := KN.out; have := HN.out; omega) (by have := HCAP.out; have := HN.out; omega)) Try.underlying70 HI.out HZ.out HS.out HBY.out rfl (by omega) seC_len seC_one
    (by unfold maxLen; have := HN.out; have := HL.out; simp; omega) (by have := HN.out; have := HL.out; simp; omega) z2
  rw [HN.out] at hrun
  refine wpAnyH_ready (rs := [9]) (by kernel_rfl) (by simp) ?_
  refine AllReadyH.cons rfl (fun K hK => ?_) AllReadyH.nil
  rw [if_pos (by rfl)]
  refine wp_append_lst _ _ 70 rfl v3 w3 hrun ?_
  refine hK.out _ _ trivial (fun hHeld => ?_)
  clear hK K hHeld hrun
  (try simp only [Act.put, List.getElem_toArray, List.getElem_cons_succ, List.getElem_cons_zero, List.setIfInBounds_toArray, List.set_cons_zero, List.set_cons_succ])
  have O3 := Lib.hid o3
  have b3 := B2.out.trans (grown_below hg3 (fun i hi => (O2.out.lt i hi).1) z2)
  have B3 := Lib.hid b3
  clear b3 o3 hv3 hg3 H2 O2 B2 z2
  (refine wpAnyH_take (i := 10) (v := ?_) rfl (by kernel_rfl) (by kernel_rfl) (by kernel_rfl) (fun _ _ _ h => h) (Or.inl ⟨by rfl, ?_⟩) trivial ?_; rotate_left; (· (intro w1 hSw; go_simp; try with_reducible rfl)); (try simp only [Act.put, List.getElem_toArray, List.getElem_cons_succ, List.getElem_cons_zero, List.setIfInBounds_toArray, List.set_cons_zero, List.set_cons_succ]))
  (refine wpAnyH_take (i := 11) (v := ?_) rfl (by kernel_rfl) (by kernel_rfl) (by kernel_rfl) (fun _ _ _ h => h) (Or.inl ⟨by rfl, ?_⟩) trivial ?_; rotate_left; (· (intro w1 hSw; go_simp; try with_reducible rfl)); (try simp only [Act.put, List.getElem_toArray, List.getElem_cons_succ, List.getElem_cons_zero, List.setIfInBounds_toArray, List.set_cons_zero, List.set_cons_succ]))
  refine wpAnyH_done (by kernel_rfl) ?_ _
  generalize (if cap = k + 1 then _ else _ : Option Addr) = az
  go_wp2_with fail
  go_ret2
  exact ⟨v3, ret_own R2.out, by rw [R1.out]; have := O3.out.mono (Nat.le_trans HB.out BW.out.size); rw [List.nil_append, ← List.eraseIdx_eq_take_drop_succ] at this; exact this, BW.out.trans (B3.out.mono BW.out.size)⟩

theorem rdrop10_any (base vid a : Nat) (ha : a < 281474976710656) (v : Value) (l : List Se) (w : World) (h : Own w base 83 8 seC v l) (hok : ∀ x ∈ l, seOk x) (hb : base ≤ w.heap.size) (hl : l.length ≤ 100) :
    Calls Try.prog 30 #[v, .int .u16 (vid : Nat), mac (byteF a)] w (OwnS w base (cutK seK (keyN vid a) l) (dropSE l (keyN vid a))) := by
  rcases atK_cases seK (keyN vid a) l with ⟨h1, -⟩ | ⟨k, x, h1, h2, -⟩
  · exact rdrop10_none base vid a ha v l w h hok (by omega) (by omega)
  · have hk := (List.getElem?_eq_some_iff.1 h2).1
    rcases h.cases with ⟨-, rfl⟩ | ⟨g, cap, rfl, -, -, hc⟩
    · simp at hk
    · exact rdrop10_own base g cap vid a k ha l w h hok hc hb hl h1 hk
end Go.Proofs.Ytilklfmcdgggfaa
