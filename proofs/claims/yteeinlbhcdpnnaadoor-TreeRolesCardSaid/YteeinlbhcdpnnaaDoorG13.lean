import Derived.Test.YteeinlbhcdpnnaaDoorG4
import Derived.Test.YteeinlbhcdpnnaaDoorG10
import Derived.Test.YteeinlbhcdpnnaaDoorG2
import Derived.Test.YteeinlbhcdpnnaaDoorG11
import Derived.Test.YteeinlbhcdpnnaaDoorG12
import Derived.Test.YteeinlbhcdpnnaaDoorG3
set_option linter.unusedSimpArgs false
set_option linter.unusedVariables false
namespace Go.Proofs.YteeinlbhcdpnnaaDoor
section
open Go.RowKit
attribute [local irreducible] wpQuiet wpList
def topQ : Pd := ⟨0, true, false, false, false, false, false, 0, 0, 0, 0, 0, 0, 0, 0, 0⟩
def beatStep (t : TS) (k : Nat) : TS := match t.s.po[k]? with
 | some x => if onP x = true then (if x.p10 = 4 then tellM t k else if x.p10 = 3 ∧ 0 < x.p20 then sendM t k topQ else t) else t
 | none => t
def beatTo (t : TS) : Nat → TS
 | 0 => t
 | k + 1 => beatStep (beatTo t k) k
def beatM (t : TS) : TS := beatTo t t.s.po.length
theorem sendM_is (t : TS) (i : Nat) (q : Pd) : (sendM t i q).s = t.s ∧ (sendM t i q).fl = t.fl ∧ (sendM t i q).told.length ≤ t.told.length + 1 := by
 unfold sendM
 split
 ·
  refine ⟨rfl, rfl, ?_⟩
  show (t.told ++ [_]).length ≤ _
  simp
 ·
  exact ⟨rfl, rfl, Nat.le_succ _⟩
theorem tellM_is (t : TS) (i : Nat) : (tellM t i).s = t.s ∧ (tellM t i).fl = t.fl ∧ (tellM t i).told.length ≤ t.told.length + 1 := by
 unfold tellM
 split
 ·
  exact sendM_is _ _ _
 ·
  exact ⟨rfl, rfl, Nat.le_succ _⟩
theorem beatStep_is (t : TS) (i : Nat) : (beatStep t i).s = t.s ∧ (beatStep t i).fl = t.fl ∧ (beatStep t i).told.length ≤ t.told.length + 1 := by
 unfold beatStep
 split
 ·
  split
  ·
   split
   ·
    exact tellM_is _ _
   ·
    split
    ·
     exact sendM_is _ _ _
    ·
     exact ⟨rfl, rfl, Nat.le_succ _⟩
  ·
   exact ⟨rfl, rfl, Nat.le_succ _⟩
 ·
  exact ⟨rfl, rfl, Nat.le_succ _⟩
theorem beatTo_is (t : TS) : ∀ k, (beatTo t k).s = t.s ∧ (beatTo t k).fl = t.fl ∧ (beatTo t k).told.length ≤ t.told.length + k
 | 0 => ⟨rfl, rfl, Nat.le_refl _⟩
 | k + 1 => by
  have a := beatTo_is t k
  have b := beatStep_is (beatTo t k) k
  exact ⟨b.1.trans a.1, b.2.1.trans a.2.1, by have := a.2.2; have := b.2.2; show (beatStep (beatTo t k) k).told.length ≤ _; omega⟩
set_option maxRecDepth 100000 in
set_option maxHeartbeats 8000000 in
theorem beat_any {T b n m : Nat} {a : Option Addr} {v2 v3 v4 tv fv : Value} {t : TS} {w : World} (h : Tact w ⟨T, b, a, n, m, v2, v3, v4⟩ tv fv t) (htl : t.told.length + n ≤ 1000) : Calls Tryd.prog 36 #[.pointer (some ⟨b, 0, none⟩)] w fun e w' => e = .returned (.tuple #[]) ∧ Done w ⟨T, b, a, n, m, v2, v3, v4⟩ tv fv (beatM t) w' := by
 have HTL := Lib.hid htl
 clear htl
 obtain ⟨tF, htF⟩ : ∃ z, z = beatM t := ⟨_, rfl⟩
 rw [← htF]
 have HTF := Lib.hid htF
 clear htF
 have LEN := Lib.hid h.len
 obtain ⟨F, hF⟩ : ∃ F, F = foot ⟨T, b, a, n, m, v2, v3, v4⟩ tv fv := ⟨_, rfl⟩
 have HF := Lib.hid hF
 have K := Lib.hid (show Ta ⟨w, ⟨T, b, a, n, m, v2, v3, v4⟩, F⟩ [] t w from hF ▸ h.start)
 clear hF h
 go_enter Tryd.func36, Tryd.ntmps36
 go_upto_region 0 with fail
 have HE1 := Lib.hid (show tF = beatTo t n by have q : n = t.s.po.length := LEN.out.1; rw [HTF.out, q]; rfl)
 refine lz (wz6 (pT b 0) (pT b 0) (pT b 0) (pT b 6) (.slice a n m) (iV (n : Nat)) (h5 := by have q : w.cell? ⟨b, 6, none⟩ = some (.slice a n m) := K.out.acell 6 rfl; go_simp) (h := wz1 (iV 0) (h := nz ?_)))
 go_upto_region 1 with fail
 go_loopw [10] (fun i wr => ∃ k : Nat, k ≤ n ∧ i = .int .i64 k ∧ Ta ⟨w, ⟨T, b, a, n, m, v2, v3, v4⟩, F⟩ [] (beatTo t k) wr) (fun i _ => (n - intOf i).toNat)
 case atStart => exact ⟨0, Nat.zero_le _, rfl, K.out⟩
 case round =>
  obtain ⟨k, hk, rfl, hK⟩ := hrel
  obtain ⟨t2, ht2⟩ : ∃ z, z = beatTo t k := ⟨_, rfl⟩
  rw [← ht2] at hK
  have KR := Lib.hid hK
  have HT2 := Lib.hid ht2
  have HK := Lib.hid hk
  have HC2 := Lib.hid (show t2.s.po.length = t.s.po.length ∧ t2.told.length ≤ t.told.length + k by have q := beatTo_is t k; rw [← ht2] at q; exact ⟨by rw [q.1], q.2.2⟩)
  clear hK ht2 hk
  have i1 : (n : Int) ≤ 100 := by have q : n ≤ 100 := KR.out.few; omega
  by_cases hlt : k < n
  case neg =>
   have HLT := Lib.hid hlt
   clear hlt
   go_upto_region 1 with fail
   refine lz (wz1 (.bool false) (h1 := by have q := HLT.out; go_simp) (h := nz ?_))
   have hkn : n = k := by have q1 := HK.out; have q2 := HLT.out; omega
   have KZ := Lib.hid (show Ta ⟨w, ⟨T, b, a, n, m, v2, v3, v4⟩, F⟩ [] tF wr from by rw [show tF = t2 from by rw [HE1.out, hkn, ← HT2.out]]; exact KR.out)
   go_wp2_with fail
   go_end0
   exact ⟨rfl, by have q := KZ.out; rw [HF.out] at q; exact q.done⟩
  case pos =>
   have HLK := Lib.hid hlt
   obtain ⟨y, hy⟩ : ∃ y, t2.s.po[k]? = some y := ⟨_, List.getElem?_eq_getElem (show k < t2.s.po.length by have q1 : n = t2.s.po.length := KR.out.len.1; omega)⟩
   obtain ⟨g, rfl⟩ : ∃ g, a = some ⟨g, 0, none⟩ := KR.out.ptr hy
   have HY := Lib.hid hy
   clear hy
   clear hlt
   have HLP := Lib.hid (show k < t2.s.po.length from (List.getElem?_eq_some_iff.1 HY.out).1)
   have HTL2 := Lib.hid (show t2.told.length ≤ 1000 by have q1 := HC2.out.2; have q2 := HTL.out; have q3 := HLK.out; omega)
   go_upto_region 1 with fail
   refine lz (wz1 (.bool true) (h1 := by have q := HLK.out; go_simp) (h := nz ?_))
   go_upto_region 2 with fail
   refine lz (wz3 (iV (k : Nat)) (pT g (k * 21)) (.agg (poA y)) (h2 := by have q1 : k < n := HLK.out; have q2 : n ≤ m := LEN.out.2.1; go_simp) (h3 := by exact run_loadRange 73 _ rfl g (k * 21) rfl (poA y) _ (KR.out.prange rfl HY.out) Tryd.underlying73 rfl (po_info _)) (h := ?_))
   refine ta_alloc KR.out 73 (nil21) rfl z50 (by rfl) (pz (h := ?_))
   intro b2 w2 K2
   refine wz1 (iV (k : Nat)) (h := ?_)
   refine ta_row K2.out 0 rfl 73 _ _ (poA y) rfl rfl rfl rfl (size50) (by rfl) (po_all _) (py (h := ?_))
   intro w3 K3
   refine wpList_nil ?_
   go_upto_region 3 with fail
   rcases (show onP y = true ∨ onP y = false by cases onP y <;> simp) with ho | ho
   case inr =>
    have HO := Lib.hid ho
    clear ho
    refine lz (wz1 (.agg (poA y)) (h1 := by exact ta_all K3.out 0 rfl 73 _ rfl rfl Tryd.underlying73 rfl (size50)) (h := ?_))
    refine ta_call K3.out 20 #[.agg (poA y)] (.bool false) (by rfl) (by go_simp) (on_is2 y false HO.out w3) (py (h := ?_))
    intro w4 K4
    refine wz2 (.bool true) (.bool true) (h := nz ?_)
    have K4y := Lib.hid (Ta.left (l := []) K4.out)
    have hlt := HLK.out
    go_wp2_with fail
    go_roundw
    case rel => exact ⟨k + 1, HLK.out, by go_num, by rw [show beatTo t (k + 1) = t2 from by show beatStep (beatTo t k) k = _; rw [← HT2.out]; unfold beatStep; rw [HY.out]; show (if _ then _ else _) = _; rw [if_neg (by rw [HO.out]; decide)]]; exact K4y.out⟩
    case measure => have := HLK.out; simp [intOf]; omega
   case inl =>
    have HO := Lib.hid ho
    clear ho
    refine lz (wz1 (.agg (poA y)) (h1 := by exact ta_all K3.out 0 rfl 73 _ rfl rfl Tryd.underlying73 rfl (size50)) (h := ?_))
    refine ta_call K3.out 20 #[.agg (poA y)] (.bool true) (by rfl) (by go_simp) (on_is2 y true HO.out w3) (py (h := ?_))
    intro w4 K4
    refine wz2 (.bool false) (.bool false) (h := nz ?_)
    go_upto_region 4 with fail
    by_cases h4 : y.p10 = 4
    case pos =>
     have H4 := Lib.hid h4
     clear h4
     refine lz (wz4 (pT b2 10) (iV y.p10) (.bool true) (.bool true) (h2 := by have q : w4.cell? ⟨b2, 10, none⟩ = some (iV y.p10) := K4.out.cell (i := 0) rfl (by rfl); go_simp) (h3 := by have q := H4.out; go_simp) (h := nz ?_))
     go_upto_region 5 with fail
     refine lz (wz2 (pT b 0) (iV (k : Nat)) (h := ?_))
     refine ta_act K4.out 60 #[.pointer (some ⟨b, 0, none⟩), .int .i64 (k : Nat)] (tellM t2 k) (by rfl) (by go_simp) (fun tv fv h => tell_any h HY.out (by have := H4.out; omega) HTL2.out) (py (h := ?_))
     intro w5 K5
     refine wpList_nil ?_
     have K5y := Lib.hid (Ta.left (l := []) K5.out)
     have hlt := HLK.out
     go_wp2_with fail
     go_roundw
     case rel => exact ⟨k + 1, HLK.out, by go_num, by rw [show beatTo t (k + 1) = tellM t2 k from by show beatStep (beatTo t k) k = _; rw [← HT2.out]; unfold beatStep; rw [HY.out]; show (if _ then _ else _) = _; rw [if_pos HO.out]; show (if _ then _ else _) = _; rw [if_pos H4.out]]; exact K5y.out⟩
     case measure => have := HLK.out; simp [intOf]; omega
    case neg =>
     have H4 := Lib.hid h4
     clear h4
     refine lz (wz4 (pT b2 10) (iV y.p10) (.bool false) (.bool false) (h2 := by have q : w4.cell? ⟨b2, 10, none⟩ = some (iV y.p10) := K4.out.cell (i := 0) rfl (by rfl); go_simp) (h3 := by have q := H4.out; go_simp) (h := nz ?_))
     go_upto_region 6 with fail
     by_cases h3 : y.p10 = 3
     case neg =>
      have H3 := Lib.hid h3
      clear h3
      refine lz (wz4 (pT b2 10) (iV y.p10) (.bool false) (.bool false) (h2 := by have q : w4.cell? ⟨b2, 10, none⟩ = some (iV y.p10) := K4.out.cell (i := 0) rfl (by rfl); go_simp) (h3 := by have q := H3.out; go_simp) (h := wk (h := wk (h := wk (h := wz2 (.bool false) (.bool false) (h1 := by exact run_pick_no (.tmp 30) (.tmp 33) (.const (.bool false)) _ rfl rfl rfl) (h := nz ?_))))))
      have K4y := Lib.hid (Ta.left (l := []) K4.out)
      have hlt := HLK.out
      go_wp2_with fail
      go_roundw
      case rel => exact ⟨k + 1, HLK.out, by go_num, by rw [show beatTo t (k + 1) = t2 from by show beatStep (beatTo t k) k = _; rw [← HT2.out]; unfold beatStep; rw [HY.out]; show (if _ then _ else _) = _; rw [if_pos HO.out]; show (if _ then _ else _) = _; rw [if_neg H4.out]; show (if _ then _ else _) = _; rw [if_neg (fun e => H3.out e.1)]]; exact K4y.out⟩
      case measure => have := HLK.out; simp [intOf]; omega
     case pos =>
      have H3 := Lib.hid h3
      clear h3
      by_cases hc : 0 < y.p20
      case neg =>
       have HC := Lib.hid hc
       clear hc
       refine lz (wz6 (pT b2 10) (iV y.p10) (.bool true) (.bool true) (pT b2 20) (iV y.p20) (h2 := by have q : w4.cell? ⟨b2, 10, none⟩ = some (iV y.p10) := K4.out.cell (i := 0) rfl (by rfl); go_simp) (h3 := by have q := H3.out; go_simp) (h6 := by have q : w4.cell? ⟨b2, 20, none⟩ = some (iV y.p20) := K4.out.cell (i := 0) rfl (by rfl); go_simp) (h := wz3 (.bool false) (.bool false) (.bool false) (h1 := by have q := HC.out; go_simp) (h2 := by exact run_pick_yes (.tmp 30) (.tmp 33) (.const (.bool false)) _ rfl rfl rfl) (h := nz ?_)))
       have K4y := Lib.hid (Ta.left (l := []) K4.out)
       have hlt := HLK.out
       go_wp2_with fail
       go_roundw
       case rel => exact ⟨k + 1, HLK.out, by go_num, by rw [show beatTo t (k + 1) = t2 from by show beatStep (beatTo t k) k = _; rw [← HT2.out]; unfold beatStep; rw [HY.out]; show (if _ then _ else _) = _; rw [if_pos HO.out]; show (if _ then _ else _) = _; rw [if_neg H4.out]; show (if _ then _ else _) = _; rw [if_neg (fun e => HC.out e.2)]]; exact K4y.out⟩
       case measure => have := HLK.out; simp [intOf]; omega
      case pos =>
       have HC := Lib.hid hc
       clear hc
       refine lz (wz6 (pT b2 10) (iV y.p10) (.bool true) (.bool true) (pT b2 20) (iV y.p20) (h2 := by have q : w4.cell? ⟨b2, 10, none⟩ = some (iV y.p10) := K4.out.cell (i := 0) rfl (by rfl); go_simp) (h3 := by have q := H3.out; go_simp) (h6 := by have q : w4.cell? ⟨b2, 20, none⟩ = some (iV y.p20) := K4.out.cell (i := 0) rfl (by rfl); go_simp) (h := wz3 (.bool true) (.bool true) (.bool true) (h1 := by have q := HC.out; go_simp) (h2 := by exact run_pick_yes (.tmp 30) (.tmp 33) (.const (.bool false)) _ rfl rfl rfl) (h := nz ?_)))
       go_upto_region 7 with fail
       refine lz (wz3 (pT b 0) (iV (k : Nat)) (.agg (pdA ⟨0, true, false, false, false, false, false, 0, 0, 0, 0, 0, 0, 0, 0, 0⟩)) (h3 := by exact run_build_of 61 [(1, .const (.bool true))] rfl _ (pdA ⟨0, true, false, false, false, false, false, 0, 0, 0, 0, 0, 0, 0, 0, 0⟩) rfl (by kernel_rfl)) (h := ?_))
       refine ta_act K4.out 61 #[.pointer (some ⟨b, 0, none⟩), .int .i64 (k : Nat), .agg (pdA ⟨0, true, false, false, false, false, false, 0, 0, 0, 0, 0, 0, 0, 0, 0⟩)] (sendM t2 k topQ) (by rfl) (by go_simp) (fun tv fv h => send_any topQ h HY.out (by have := H3.out; omega) HTL2.out) (py (h := ?_))
       intro w5 K5
       refine wpList_nil ?_
       have K5y := Lib.hid (Ta.left (l := []) K5.out)
       have hlt := HLK.out
       go_wp2_with fail
       go_roundw
       case rel => exact ⟨k + 1, HLK.out, by go_num, by rw [show beatTo t (k + 1) = sendM t2 k topQ from by show beatStep (beatTo t k) k = _; rw [← HT2.out]; unfold beatStep; rw [HY.out]; show (if _ then _ else _) = _; rw [if_pos HO.out]; show (if _ then _ else _) = _; rw [if_neg H4.out]; show (if _ then _ else _) = _; rw [if_pos ⟨H3.out, HC.out⟩]]; exact K5y.out⟩
       case measure => have := HLK.out; simp [intOf]; omega
end
section
open Go.RowKit
attribute [local irreducible] wpQuiet wpList
set_option maxRecDepth 100000 in
set_option maxHeartbeats 8000000 in
theorem stepM_any {T b n m : Nat} {a : Option Addr} {v2 v3 v4 tv fv : Value} {t : TS} {w : World} (h : Tact w ⟨T, b, a, n, m, v2, v3, v4⟩ tv fv t) (hfl : t.fl.length + (n + 1) * n ≤ 1000) : Calls Tryd.prog 35 #[.pointer (some ⟨b, 0, none⟩)] w fun e w' => e = .returned (.tuple #[]) ∧ Done w ⟨T, b, a, n, m, v2, v3, v4⟩ tv fv (stepMM t) w' := by
 have HFL := Lib.hid hfl
 clear hfl
 obtain ⟨tF, htF⟩ : ∃ z, z = stepMM t := ⟨_, rfl⟩
 rw [← htF]
 have HTF := Lib.hid htF
 clear htF
 have LEN := Lib.hid h.len
 obtain ⟨F, hF⟩ : ∃ F, F = foot ⟨T, b, a, n, m, v2, v3, v4⟩ tv fv := ⟨_, rfl⟩
 have HF := Lib.hid hF
 have K := Lib.hid (show Ta ⟨w, ⟨T, b, a, n, m, v2, v3, v4⟩, F⟩ [] t w from hF ▸ h.start)
 clear hF h
 go_enter Tryd.func35, Tryd.ntmps35
 go_upto_region 0 with fail
 refine wp_region_lit ?_
 refine ta_alloc K.out 138 (nilM) rfl zM (by rfl) (pz (h := ?_))
 intro b1 w1 K1
 refine wpList_nil ?_
 have KM := Lib.hid (Tm.start (l := []) K1.out)
 go_upto_region 1 with fail
 refine lz (wz6 (pT b 0) (pT b 0) (pT b 0) (pT b 6) (.slice a n m) (iV (n : Nat)) (h5 := by have q : w1.cell? ⟨b, 6, none⟩ = some (.slice a n m) := K1.out.acell 6 rfl; go_simp) (h := wz1 (iV 0) (h := nz ?_)))
 go_upto_region 2 with fail
 go_loopw [13] (fun i wr => ∃ k : Nat, k ≤ n ∧ i = .int .i64 k ∧ Tm ⟨w, ⟨T, b, a, n, m, v2, v3, v4⟩, F⟩ [] b1 (castI (markTo (opF t.s.cf.p3) t.s.po k)) [] (mapTo (stF t.s.cf.p3) t k) wr) (fun i _ => (n - intOf i).toNat)
 case atStart => exact ⟨0, Nat.zero_le _, rfl, KM.out⟩
 case round =>
  obtain ⟨k, hk, rfl, hK⟩ := hrel
  obtain ⟨t2, ht2⟩ : ∃ z, z = mapTo (stF t.s.cf.p3) t k := ⟨_, rfl⟩
  rw [← ht2] at hK
  have KT := Lib.hid hK
  have KR := Lib.hid hK.ta
  have HT2 := Lib.hid ht2
  have HK := Lib.hid hk
  have HC2 := Lib.hid (show t2.s.po.length = t.s.po.length ∧ t2.s.cf = t.s.cf ∧ t2.fl = t.fl by have q := mapTo_is (stF t.s.cf.p3) t k; rw [← ht2] at q; exact ⟨q.1, q.2.1, q.2.2.1⟩)
  clear hK ht2 hk
  have i1 : (n : Int) ≤ 100 := by have q : n ≤ 100 := KR.out.few; omega
  by_cases hlt : k < n
  case neg =>
   have HLT := Lib.hid hlt
   clear hlt
   go_upto_region 2 with fail
   refine lz (wz1 (.bool false) (h1 := by have q := HLT.out; go_simp) (h := nz ?_))
   go_upto_region 8 with fail
   have hkn : n = k := by have q1 := HK.out; have q2 := HLT.out; omega
   obtain ⟨ix, hix⟩ : ∃ z, z = markTo (opF t.s.cf.p3) t.s.po k := ⟨_, rfl⟩
   have HIX := Lib.hid (show (∀ i ∈ ix, i < n) ∧ ix.length ≤ n by rw [hix, hkn]; exact markTo_lt k)
   have HEF := Lib.hid (show tF = foldT changedM t2 ix ix.length by have q : n = t.s.po.length := LEN.out.1; rw [HTF.out, hix, HT2.out]; unfold stepMM; rw [← q, hkn])
   have KE := Lib.hid (show Tm ⟨w, ⟨T, b, a, n, m, v2, v3, v4⟩, F⟩ [] b1 (castI ix) [] t2 wr from by rw [hix]; exact KT.out)
   clear hkn hix
   refine lz (wz2 (pT b 0) (.func (.func 59) #[pT b 0] #[]) (h := ?_))
   refine wpList_callT 58 #[.pointer (some ⟨b1, 0, none⟩), .int .i64 0, .func (.func 59) #[.pointer (some ⟨b, 0, none⟩)] #[]] (.tuple #[]) (fun w5 => Tm ⟨w, ⟨T, b, a, n, m, v2, v3, v4⟩, F⟩ [] b1 (castI ix) [] tF w5) (by rfl) (by go_simp) ?_ ?_
   ·
    rw [HEF.out]
    refine each0_any eg_changed KE.out rfl ?_
    intro jj i W5 tv5 fv5 hji ha
    have q0 := foldChanged_is t2 ix jj
    have hjl : jj < ix.length := (List.getElem?_eq_some_iff.1 hji).1
    have hin : i < n := HIX.out.1 i (List.mem_of_getElem? hji)
    have q1 : n = t.s.po.length := LEN.out.1
    obtain ⟨x5, hx5⟩ : ∃ x, (foldT changedM t2 ix jj).s.po[i]? = some x := ⟨_, List.getElem?_eq_getElem (show i < (foldT changedM t2 ix jj).s.po.length by rw [q0.1, HC2.out.1, ← q1]; exact hin)⟩
    refine changed_any ha hx5 ?_
    have q2 := q0.2.2.1
    rw [HC2.out.2.2, HC2.out.1, ← q1] at q2
    have q3 := HFL.out
    have q4 : jj * n ≤ n * n := Nat.mul_le_mul_right _ (by have := HIX.out.2; omega)
    have q5 : (n + 1) * n = n * n + n := Nat.succ_mul n n
    omega
   intro w5 hT5
   have T5 := Lib.hid hT5.ta
   clear hT5
   (try simp only [Act.put, gA, gS, gZ, sA, sZ, sS])
   refine wpList_nil ?_
   go_wp2_with fail
   go_end0
   exact ⟨rfl, by have q := T5.out; rw [HF.out] at q; exact q.done⟩
  case pos =>
   have HLK := Lib.hid hlt
   obtain ⟨y, hy⟩ : ∃ y, t2.s.po[k]? = some y := ⟨_, List.getElem?_eq_getElem (show k < t2.s.po.length by have q1 : n = t2.s.po.length := KR.out.len.1; omega)⟩
   obtain ⟨g, rfl⟩ : ∃ g, a = some ⟨g, 0, none⟩ := KR.out.ptr hy
   have HY := Lib.hid hy
   clear hy
   clear hlt
   have HLP := Lib.hid (show k < t2.s.po.length from (List.getElem?_eq_some_iff.1 HY.out).1)
   obtain ⟨tvS, fvS, aS, -, -⟩ := KR.out.act
   have AS := Lib.hid aS
   obtain ⟨FS, hFS⟩ : ∃ z, z = foot ⟨T, b, some ⟨g, 0, none⟩, n, m, v2, v3, v4⟩ tvS fvS := ⟨_, rfl⟩
   have HFS := Lib.hid hFS
   have KS := Lib.hid (show Ta ⟨wr, ⟨T, b, some ⟨g, 0, none⟩, n, m, v2, v3, v4⟩, FS⟩ [] t2 wr from hFS ▸ aS.start)
   clear aS hFS
   have HPY := Lib.hid (show t.s.po[k]? = some y by have q := mapTo_get (stF t.s.cf.p3) t k k; rw [if_neg (Nat.lt_irrefl _), ← HT2.out, HY.out] at q; exact q.symm)
   go_upto_region 2 with fail
   refine lz (wz1 (.bool true) (h1 := by have q := HLK.out; go_simp) (h := nz ?_))
   go_upto_region 3 with fail
   refine lz (wz3 (iV (k : Nat)) (pT g (k * 21)) (.agg (poA y)) (h2 := by have q1 : k < n := HLK.out; have q2 : n ≤ m := LEN.out.2.1; go_simp) (h3 := by exact run_loadRange 73 _ rfl g (k * 21) rfl (poA y) _ (KS.out.prange rfl HY.out) Tryd.underlying73 rfl (po_info _)) (h := ?_))
   refine ta_alloc KS.out 73 (nil21) rfl z50 (by rfl) (pz (h := ?_))
   intro b3 w3 K3
   refine wz1 (iV (k : Nat)) (h := ?_)
   refine ta_row K3.out 0 rfl 73 _ _ (poA y) rfl rfl rfl rfl (size50) (by rfl) (po_all _) (py (h := ?_))
   intro w4 K4
   refine wpList_nil ?_
   go_upto_region 4 with fail
   obtain ⟨u, hu⟩ : ∃ u, u = stepP y t2.s.cf.p3 := ⟨_, rfl⟩
   obtain ⟨op, hop⟩ : ∃ q, q = openedB y u := ⟨_, rfl⟩
   have HU := Lib.hid hu
   clear hu
   have HOP := Lib.hid hop
   clear hop
   refine rk (fun s => [.agg (poA y), pT b 0, pT b 0, pT b 0, pT b 0, .agg (cfA t2.s.cf), .tuple #[.agg (poA u), .bool op], .tuple #[.agg (poA u), .bool op], .agg (poA u), .bool op, s, undef, .bool op]) (fun s Lx w' => W2 w4 73 62 21 21 (poA u) (#[]) (Lx 10) false (Lx 11) false s undef w') (u5) [] [] [(0, fun s => [(4, pT b3 0)]), (5, fun s => [(23, pT b 0)]), (6, fun s => [(19, .agg (poA y)), (24, .agg (cfA t2.s.cf))]), (10, fun s => []), (11, fun s => [(5, s), (26, .agg (poA u))])] [10, 11] (W2.start _) (fun _ _ _ _ => trivial) (fun _ L1 L2 _ e h => by (try dsimp only at h ⊢); rw [← e 10 (by decide), ← e 11 (by decide)]; exact h) ?_ ?_
   ·
    refine ⟨?_, ?_, ?_, ?_, ?_, trivial⟩ <;> (rintro v5 Lx w' hw hL haft hdc ρ hc hf hG hs o ho; cases ho; try dsimp only [pT, iV, seen] at hw hs)
    ·
     obtain ⟨e4, _⟩ := hs
     exact sq (.agg (poA y)) (l_var 73 _ rfl _ e4 _ _ _ (Ta.at (i := 0) (K4.out.next hw.from1) rfl) Tryd.underlying73 rfl (size50))
    ·
     obtain ⟨e23, _⟩ := hs
     exact sq (.agg (cfA t2.s.cf)) (by obtain ⟨cs, ty, q1, q2⟩ := (K4.out.next hw.from1).conf; exact l_partof 31 _ rfl b 0 e23 ty cs (cfA t2.s.cf).toList _ q1 q2 Tryd.underlying31 rfl (cf_info _))
    ·
     exact sc (.tuple #[.agg (poA u), .bool op]) 38 #[.agg (poA y), .agg (cfA t2.s.cf)] (by have q := step_any y t2.s.cf w'; rw [← HU.out, ← HOP.out] at q; exact q) (by go_simp) (fun w2 hb => ⟨_, fun _ _ => rfl, rfl, hw.next hb⟩)
    ·
     skip
     have hz := z50 w'
     exact sw (w' := (w'.alloc (.cells (nil21) 73))) (pT (w'.heap.size) 0) (by go_simp) ⟨(pT (w'.heap.size) 0), vs_other (i := 10) rfl hL, rfl, hw.alloc7 rfl hL⟩
    ·
     obtain ⟨e5, e26, _⟩ := hs
     obtain ⟨c, cs, rfl, hB, hz, hk, -⟩ := hw.p7 (haft 10 (by decide))
     exact sr 73 _ _ rfl c (poA u) e5 e26 73 cs hk (size50) (hz.trans rfl) (po_all _) ⟨_, fun _ _ => rfl, rfl, hw.store7 (haft 10 (by decide)) rfl hk hB⟩
   intro v5 Lx w5 hw hall
   try dsimp only at hw
   obtain ⟨b5x, cs0, hv0, hB0, -, hk0, hx0⟩ := hw.p7 (hall 10 (by decide))
   have hx0 := hx0 (hall 11 (by decide))
   subst hx0
   subst hv0
   simp only [pT, iV, List.toList_toArray, putsZ_some, putsZ_none, putsZ_nil, List.setIfInBounds_toArray, List.set_cons_zero, List.set_cons_succ]
   have K5 := Lib.hid (show Ta ⟨wr, ⟨T, b, some ⟨g, 0, none⟩, n, m, v2, v3, v4⟩, FS⟩ [(b3, poA y, 73), (b5x, poA u, 73)] (t2) w5 from (ta_add2 K4.out hw.from1 hk0 hB0))
   clear hw hall
   go_upto_region 5 with fail
   refine rk (fun (_ : Unit) => [pT b 0, pT b 0, pT b 0, pT b 6, .slice (some ⟨g, 0, none⟩) n m, iV (k : Nat), .agg (poA u), pT g (k * 21), undef]) (fun _ Lx w' => Ta ⟨wr, ⟨T, b, some ⟨g, 0, none⟩, n, m, v2, v3, v4⟩, FS⟩ [(b3, poA y, 73), (b5x, poA u, 73)] (bif Lx 8 then t2.setPo (t2.s.po.set k u) else t2) w') (()) [] [] [(4, fun _ => [(31, pT b 6)]), (6, fun _ => [(5, pT b5x 0)]), (7, fun _ => [(32, .slice (some ⟨g, 0, none⟩) n m), (33, iV (k : Nat))]), (8, fun _ => [(34, .agg (poA u)), (35, pT g (k * 21))])] [8] (K5.out.drew) (fun _ _ _ _ => trivial) (fun _ L1 L2 _ e h => by (try dsimp only at h ⊢); rw [← e 8 (by decide)]; exact h) ?_ ?_
   ·
    refine ⟨?_, ?_, ?_, ?_, trivial⟩ <;> (rintro _ Lx w' hw hL haft hdc ρ hc hf hG hs o ho; cases ho; try dsimp only [pT, iV, seen] at hw hs)
    ·
     have hn8 : Lx 8 = false := nup (fun cq => hdc 7 (hdc 8 cq 7 (by decide)) 4 (by decide)) hL
     have hwo : Ta ⟨wr, ⟨T, b, some ⟨g, 0, none⟩, n, m, v2, v3, v4⟩, FS⟩ [(b3, poA y, 73), (b5x, poA u, 73)] (t2) w' := by rw [hn8] at hw; exact hw
     exact sq (.slice (some ⟨g, 0, none⟩) n m) (by have q : w'.cell? ⟨b, 6, none⟩ = some (.slice (some ⟨g, 0, none⟩) n m) := hwo.acell 6 rfl; go_simp)
    ·
     obtain ⟨e5, _⟩ := hs
     have hn8 : Lx 8 = false := nup (fun cq => hdc 8 cq 6 (by decide)) hL
     have hwo : Ta ⟨wr, ⟨T, b, some ⟨g, 0, none⟩, n, m, v2, v3, v4⟩, FS⟩ [(b3, poA y, 73), (b5x, poA u, 73)] (t2) w' := by rw [hn8] at hw; exact hw
     exact sq (.agg (poA u)) (l_var 73 _ rfl _ e5 _ _ _ (Ta.at (i := 1) hwo rfl) Tryd.underlying73 rfl (size50))
    ·
     exact sq (pT g (k * 21)) (by have q1 : k < n := HLK.out; have q2 : n ≤ m := LEN.out.2.1; go_simp)
    ·
     obtain ⟨e34, e35, _⟩ := hs
     have hw0 : Ta ⟨wr, ⟨T, b, some ⟨g, 0, none⟩, n, m, v2, v3, v4⟩, FS⟩ [(b3, poA y, 73), (b5x, poA u, 73)] (t2) w' := by rw [hL] at hw; exact hw
     exact sm 73 _ _ rfl g (k * 21) (poA u) e35 e34 (hw0.pthere rfl HLP.out) (po_info _) (po_all _) ⟨(), fun _ _ => rfl, rfl, hw0.pput rfl HLP.out⟩
   intro _ Lx w6 hw hall
   try dsimp only at hw
   simp only [pT, iV, List.toList_toArray, putsZ_some, putsZ_none, putsZ_nil, List.setIfInBounds_toArray, List.set_cons_zero, List.set_cons_succ]
   rw [hall 8 (by decide)] at hw
   simp only [cond_true] at hw
   have K6 := Lib.hid hw
   clear hw hall
   have HD := Lib.hid (show Done wr ⟨T, b, some ⟨g, 0, none⟩, n, m, v2, v3, v4⟩ tvS fvS (t2.setPo (t2.s.po.set k u)) w6 from by have q := K6.out; rw [HFS.out] at q; exact q.done)
   have hS := KT.out.seg AS.out HD.out
   have e3 : t2.setPo (t2.s.po.set k u) = mapTo (stF t.s.cf.p3) t (k + 1) := by show _ = mapStep (stF t.s.cf.p3) (mapTo (stF t.s.cf.p3) t k) k; rw [← HT2.out, mapStep_some HY.out]; show _ = t2.setPo (t2.s.po.set k (stepP y t.s.cf.p3)); rw [← HC2.out.2.1, ← HU.out]
   rw [e3] at hS
   have KN := Lib.hid hS
   clear hS e3
   go_upto_region 6 with fail
   rcases (show op = true ∨ op = false by cases op <;> simp) with ho | ho
   case inl =>
    subst ho
    refine lz (wz2 (iV (k : Nat)) (.bool true) (h := ?_))
    have HPP := Lib.hid (show (opF t.s.cf.p3) k y = true by show openedB y (stepP y t.s.cf.p3) = true; rw [← HC2.out.2.1, ← HU.out]; exact HOP.out.symm)
    refine wpList_callT 57 #[.pointer (some ⟨b1, 0, none⟩), .int .i64 0, .int .i64 (k : Nat), .bool true] (.tuple #[]) (fun w5 => Tm ⟨w, ⟨T, b, some ⟨g, 0, none⟩, n, m, v2, v3, v4⟩, F⟩ [] b1 (castI (markTo (opF t.s.cf.p3) t.s.po (k + 1))) [] (mapTo (stF t.s.cf.p3) t (k + 1)) w5) (by rfl) (by go_simp) ?_ ?_
    ·
     obtain ⟨s0, s1, m1, m2⟩ := KN.out.mks
     have hl : (castI (markTo (opF t.s.cf.p3) t.s.po k)).length ≤ 1000 := by unfold castI; rw [List.length_map]; have q1 := (markTo_lt (p := (opF t.s.cf.p3)) (l := t.s.po) k).2; have q2 := HLK.out; omega
     refine (mark0_yes k m1 hl).mono fun e w5 ⟨he, hd⟩ => ⟨he, ?_⟩
     rw [markTo_yes HPY.out HPP.out]
     exact KN.out.marks m1 m2 hd
    intro w5 hT5
    have T5 := Lib.hid hT5
    clear hT5
    (try simp only [Act.put, gA, gS, gZ, sA, sZ, sS])
    refine wpList_nil ?_
    have hlt := HLK.out
    go_wp2_with fail
    go_roundw
    case rel => exact ⟨k + 1, HLK.out, by go_num, T5.out⟩
    case measure => have := HLK.out; simp [intOf]; omega
   case inr =>
    subst ho
    refine lz (wz2 (iV (k : Nat)) (.bool false) (h := ?_))
    have HPP := Lib.hid (show (opF t.s.cf.p3) k y = false by show openedB y (stepP y t.s.cf.p3) = false; rw [← HC2.out.2.1, ← HU.out]; exact HOP.out.symm)
    refine wpList_callT 57 #[.pointer (some ⟨b1, 0, none⟩), .int .i64 0, .int .i64 (k : Nat), .bool false] (.tuple #[]) (fun w5 => Tm ⟨w, ⟨T, b, some ⟨g, 0, none⟩, n, m, v2, v3, v4⟩, F⟩ [] b1 (castI (markTo (opF t.s.cf.p3) t.s.po (k + 1))) [] (mapTo (stF t.s.cf.p3) t (k + 1)) w5) (by rfl) (by go_simp) ?_ ?_
    ·
     obtain ⟨s0, s1, m1, m2⟩ := KN.out.mks
     refine (mark0_no k m1).mono fun e w5 ⟨he, hd⟩ => ⟨he, ?_⟩
     rw [markTo_no HPY.out HPP.out]
     exact KN.out.marks m1 m2 hd
    intro w5 hT5
    have T5 := Lib.hid hT5
    clear hT5
    (try simp only [Act.put, gA, gS, gZ, sA, sZ, sS])
    refine wpList_nil ?_
    have hlt := HLK.out
    go_wp2_with fail
    go_roundw
    case rel => exact ⟨k + 1, HLK.out, by go_num, T5.out⟩
    case measure => have := HLK.out; simp [intOf]; omega
end
section
open Go.RowKit
attribute [local irreducible] wpQuiet wpList
def bestU (self : Nat) (l : List Rp) : Nat → Option (Nat × Rp)
 | 0 => none
 | k + 1 => match l[k]? with
  | none => bestU self l k
  | some x => if wayB self x && (match bestU self l k with | none => true | some y => aheadB x y.2) then some (k, x) else bestU self l k
def firstA : Option (Nat × Rp) → Array Value
 | none => nilW
 | some y => wyA (plusV y.2.v y.2.c) y.2.i ((y.1 : Int) + 1)
theorem first_size (F : Option (Nat × Rp)) : (firstA F).size = 6 := by cases F <;> rfl
theorem first_one (F : Option (Nat × Rp)) : (firstA F).all (·.oneCell') = true := by
 cases F with
 | none => kernel_rfl
 | some y => kernel_rfl
theorem rp_len (x : Rp) : (rpC x).length = 8 := rfl
theorem best_no {self : Nat} {l : List Rp} {k : Nat} {x : Rp} (hx : l[k]? = some x) (h : (wayB self x && (match bestU self l k with | none => true | some y => aheadB x y.2)) = false) : bestU self l (k + 1) = bestU self l k := by
 show (match l[k]? with | none => bestU self l k | some x => if wayB self x && (match bestU self l k with | none => true | some y => aheadB x y.2) then some (k, x) else bestU self l k) = _
 rw [hx]
 simp only
 rw [h]
 rfl
theorem best_yes {self : Nat} {l : List Rp} {k : Nat} {x : Rp} (hx : l[k]? = some x) (h : (wayB self x && (match bestU self l k with | none => true | some y => aheadB x y.2)) = true) : bestU self l (k + 1) = some (k, x) := by
 show (match l[k]? with | none => bestU self l k | some x => if wayB self x && (match bestU self l k with | none => true | some y => aheadB x y.2) then some (k, x) else bestU self l k) = _
 rw [hx]
 simp only
 rw [h]
 rfl
set_option maxRecDepth 100000 in
set_option maxHeartbeats 4000000 in
theorem equal_w6 (a0 b0 a1 b1 a2 b2 a3 b3 a4 b4 a5 b5 : Int) (w : World) : (Op.equalIn 10000 133 (.agg #[.int .u64 a0, .int .u32 a1, .int .u64 a2, .int .u16 a3, .int .u16 a4, .int .i64 a5]) (.agg #[.int .u64 b0, .int .u32 b1, .int .u64 b2, .int .u16 b3, .int .u16 b4, .int .i64 b5])).run Tryd.prog w = .ok (decide (a0 = b0) && decide (a1 = b1) && decide (a2 = b2) && decide (a3 = b3) && decide (a4 = b4) && decide (a5 = b5)) w := by
 have hS : Tryd.prog.underlying 133 = some (.struct (Tryd.prog.fieldsOf 133)) := by kernel_rfl
 have hp : Tryd.prog.stoodInHeld 133 = false := by kernel_rfl
 have n48 : ∀ W, (Op.equalIn 9999 71 (.agg #[.int .u64 a0, .int .u32 a1, .int .u64 a2, .int .u16 a3]) (.agg #[.int .u64 b0, .int .u32 b1, .int .u64 b2, .int .u16 b3])).run Tryd.prog W = .ok (decide (a0 = b0) && decide (a1 = b1) && decide (a2 = b2) && decide (a3 = b3)) W := fun W => equal_48 a0 b0 a1 b1 a2 b2 a3 b3 W
 rw [show (10000 : Nat) = 9999 + 1 from rfl, run_equalIn_agg w 9999 133 _ _ hS hp]
 simp only [Program.fieldsOf, Tryd.underlying133]
 have u3 := Tryd.underlying3
 have u40 := Tryd.underlying59
 go_simp
 by_cases h0 : a0 = b0
 ·
  subst h0
  by_cases h1 : a1 = b1
  ·
   subst h1
   by_cases h2 : a2 = b2
   ·
    subst h2
    by_cases h3 : a3 = b3
    ·
     subst h3
     by_cases h4 : a4 = b4
     ·
      subst h4
      by_cases h5 : a5 = b5
      ·
       subst h5
       simp
      ·
       simp [h5]
     ·
      simp [h4]
    ·
     simp [h3]
   ·
    simp [h2]
  ·
   simp [h1]
 ·
  simp [h0]
theorem way_zero (W : World) : (Op.equalIn 10000 133 (.agg nilW) (.agg nilW)).run Tryd.prog W = .ok true W := by
 have h := equal_w6 0 0 0 0 0 0 0 0 0 0 0 0 W
 simpa using h
theorem way_some (v : Vc) (i : Nat) (k : Int) (hk : k ≠ 0) (W : World) : (Op.equalIn 10000 133 (.agg (wyA v i k)) (.agg nilW)).run Tryd.prog W = .ok false W := by
 have h := equal_w6 (v.r : Nat) 0 (v.c : Nat) 0 (v.b : Nat) 0 (v.p : Nat) 0 (i : Nat) 0 k 0 W
 rw [show decide (k = 0) = false by simp [hk], Bool.and_false] at h
 exact h
theorem wrap_i64r {x : Int} (h0 : -9223372036854775808 ≤ x) (h1 : x < 9223372036854775808) : IntKind.i64.wrap x = x := by
 simp [IntKind.wrap, IntKind.bits, IntKind.signed]
 omega
theorem Kb.sub {w0 w : World} {l l' : List (Nat × Array Value × TypeId)} (K : Kb w0 l w) (h : l'.Sublist l) : Kb w0 l' w :=
 ⟨fun x hx => K.all x (h.mem hx), K.below, fun x hx => K.new x (h.mem hx), (h.map _).nodup K.nd⟩
set_option maxRecDepth 100000 in
set_option maxHeartbeats 8000000 in
theorem best_any (self : Nat) (l : List Rp) (n m : Nat) (a : Option Addr) (w : World) (B : Nat) (hl : l.length = n) (hn : n ≤ 100) (ho : Own w B 76 8 rpC (.slice a n m) l) (hok : ∀ x ∈ l, x.ok) :
 Calls Tryd.prog 53 #[.int .u64 (self : Nat), .slice a n m] w fun e w' => e = .returned (.agg (firstA (bestU self l n))) ∧ Below w.heap.size w w' := by
 have HO := Lib.hid ho
 have HL := Lib.hid hl
 have HOK := Lib.hid hok
 have hcap : n ≤ m ∧ m ≤ maxLen := by
  obtain ⟨a', c', e, h1, h2⟩ := ho.shape
  injection e with _ e2 e3
  subst e3
  omega
 have hm2 : (m : Int) ≤ 9223372036854775807 := by have := hcap.2; unfold maxLen at *; omega
 have hnm : n ≤ m := hcap.1
 clear ho hl hok hcap
 have K := Lib.hid (Kb.nil w)
 go_enter Tryd.func53, Tryd.ntmps53
 go_upto_region 0 with fail
 refine wp_region_lit ?_
 refine kb_alloc K.out 133 (nilW) rfl z83 (by rfl) (pz (h := ?_))
 intro b1 w1 K1
 refine wpList_nil ?_
 go_upto_region 1 with fail
 refine wp_region_lit ?_
 refine kb_alloc K1.out 133 (nilW) rfl z83 (by rfl) (pz (h := ?_))
 intro b2 w2 K2
 refine wpList_nil ?_
 go_upto_region 2 with fail
 refine lz (wz3 (.slice a n m) (iV (n : Nat)) (iV 0) (h := nz ?_))
 go_upto_region 3 with fail
 go_loopw [11] (fun i wr => ∃ k : Nat, k ≤ n ∧ i = .int .i64 k ∧ Kb w [(b1, nilW, 133), (b2, firstA (bestU self l k), 133)] wr) (fun i _ => (n - intOf i).toNat)
 case atStart => exact ⟨0, by omega, rfl, K2.out⟩
 case round =>
  obtain ⟨k, hk, rfl, hK⟩ := hrel
  have KR := Lib.hid hK
  clear hK
  by_cases hlt : (k : Int) < (n : Int)
  case neg =>
   obtain rfl : k = n := by omega
   go_upto_region 3 with fail
   refine lz (wz1 (.bool false) (h1 := by have q := hlt; go_simp) (h := nz ?_))
   go_upto_region 9 with fail
   refine lz (wz1 (.agg (firstA (bestU self l k))) (h1 := by exact kb_all KR.out 1 rfl 133 _ rfl rfl Tryd.underlying133 rfl ((by rw [first_size]; exact size83))) (h := ?_))
   refine kb_row KR.out 0 rfl 133 _ _ (firstA (bestU self l k)) rfl rfl rfl rfl ((by rw [first_size]; exact size83)) (by rw [first_size]; rfl) (first_one _) (py (h := ?_))
   intro w11 K11
   refine wpList_nil ?_
   go_wp2_with fail
   refine bodyPost_ret (v := .agg (firstA (bestU self l k))) (results_cell_row Tryd.results53 _ _ b1 133 (firstA (bestU self l k)) (0, 0) _ rfl (K11.out.at (i := 0) rfl) Tryd.underlying133 rfl (by rw [first_size]; exact size83)) rfl ?_
   exact ⟨rfl, K11.out.below⟩
  case pos =>
   obtain ⟨x, hx⟩ : ∃ x, l[k]? = some x := ⟨_, List.getElem?_eq_getElem (by rw [HL.out]; omega)⟩
   have o1 := HO.out
   rw [← HL.out] at o1
   obtain ⟨g, rfl, -, -, hr⟩ := Own.elem rp_len o1 hx
   have R := Lib.hid hr
   have HX := Lib.hid hx
   have OKX := Lib.hid (HOK.out x (List.mem_of_getElem? hx))
   clear o1 hr hx
   have hkm : k ≤ m := by omega
   obtain ⟨F, hF⟩ : ∃ F, F = bestU self l k := ⟨_, rfl⟩
   have HF := Lib.hid hF
   rw [← hF] at KR
   clear hF
   cases hwb : wayB self x
   case false =>
    cases F with
    | none =>
     go_upto_region 3 with fail
     refine lz (wz1 (.bool true) (h1 := by have q := hlt; go_simp) (h := nz ?_))
     go_upto_region 4 with fail
     refine lz (wz3 (iV (k : Nat)) (pT g (k * 8)) (.agg (rpA x)) (h3 := by exact run_loadRange 76 _ rfl g (k * 8) rfl (rpA x) _ (R.out _ KR.out.below) Tryd.underlying76 rfl size47) (h := ?_))
     refine kb_alloc KR.out 76 (nil8) rfl z47 (by rfl) (pz (h := ?_))
     intro b11 w11 K11
     refine wz1 (iV (k : Nat)) (h := ?_)
     refine kb_row K11.out 2 rfl 76 _ _ (rpA x) rfl rfl rfl rfl (size47) (by rfl) (by kernel_rfl) (py (h := ?_))
     intro w12 K12
     refine wpList_nil ?_
     go_upto_region 5 with fail
     refine lz (wz4 (.agg (rpA x)) (.int .u64 (self : Nat)) (iV (k : Nat)) (iV ((k : Int) + 1)) (h1 := by exact kb_all K12.out 2 rfl 76 _ rfl rfl Tryd.underlying76 rfl (size47)) (h4 := by go_simp; exact wrap_i64r (by omega) (by omega)) (h := ?_))
     refine kb_call K12.out 68 #[.agg (rpA x), .int .u64 (self : Nat), .int .i64 ((k : Int) + 1)] (.agg (nilW)) (by rfl) (by go_simp) (by have q := way_any self x ((k : Int) + 1) OKX.out w12; rw [show wayA self x ((k : Int) + 1) = nilW by unfold wayA; rw [hwb]; rfl] at q; exact q) (py (h := ?_))
     intro w13 K13
     refine kb_alloc K13.out 133 (nilW) rfl z83 (by rfl) (pz (h := ?_))
     intro b14 w14 K14
     refine kb_row K14.out 3 rfl 133 _ _ (nilW) rfl rfl rfl rfl (size83) (by rfl) (by kernel_rfl) (py (h := ?_))
     intro w15 K15
     refine wpList_nil ?_
     go_upto_region 6 with fail
     refine lz (wz4 (.agg (nilW)) (.agg (nilW)) (.bool false) (.bool false) (h1 := by exact kb_all K15.out 3 rfl 133 _ rfl rfl Tryd.underlying133 rfl (size83)) (h2 := by exact run_build_of 133 [] rfl [] nilW rfl (by kernel_rfl)) (h3 := by have q := way_zero; go_simp) (h := wk (h := wk (h := wk (h := wk (h := wk (h := wk (h := wk (h := wk (h := wz1 (.bool false) (h1 := by exact run_pick_no (.tmp 24) (.tmp 32) (.const (.bool false)) _ rfl rfl rfl) (h := nz ?_)))))))))))
     go_wp2_with fail
     go_roundw
     case rel => exact ⟨k + 1, by omega, by go_num, by rw [best_no HX.out (by rw [← HF.out, hwb]; rfl)]; rw [← HF.out]; exact K15.out.sub (List.Sublist.cons_cons _ (List.Sublist.cons_cons _ (List.nil_sublist _)))⟩
     case measure => simp [intOf]; omega
    | some y =>
     go_upto_region 3 with fail
     refine lz (wz1 (.bool true) (h1 := by have q := hlt; go_simp) (h := nz ?_))
     go_upto_region 4 with fail
     refine lz (wz3 (iV (k : Nat)) (pT g (k * 8)) (.agg (rpA x)) (h3 := by exact run_loadRange 76 _ rfl g (k * 8) rfl (rpA x) _ (R.out _ KR.out.below) Tryd.underlying76 rfl size47) (h := ?_))
     refine kb_alloc KR.out 76 (nil8) rfl z47 (by rfl) (pz (h := ?_))
     intro b11 w11 K11
     refine wz1 (iV (k : Nat)) (h := ?_)
     refine kb_row K11.out 2 rfl 76 _ _ (rpA x) rfl rfl rfl rfl (size47) (by rfl) (by kernel_rfl) (py (h := ?_))
     intro w12 K12
     refine wpList_nil ?_
     go_upto_region 5 with fail
     refine lz (wz4 (.agg (rpA x)) (.int .u64 (self : Nat)) (iV (k : Nat)) (iV ((k : Int) + 1)) (h1 := by exact kb_all K12.out 2 rfl 76 _ rfl rfl Tryd.underlying76 rfl (size47)) (h4 := by go_simp; exact wrap_i64r (by omega) (by omega)) (h := ?_))
     refine kb_call K12.out 68 #[.agg (rpA x), .int .u64 (self : Nat), .int .i64 ((k : Int) + 1)] (.agg (nilW)) (by rfl) (by go_simp) (by have q := way_any self x ((k : Int) + 1) OKX.out w12; rw [show wayA self x ((k : Int) + 1) = nilW by unfold wayA; rw [hwb]; rfl] at q; exact q) (py (h := ?_))
     intro w13 K13
     refine kb_alloc K13.out 133 (nilW) rfl z83 (by rfl) (pz (h := ?_))
     intro b14 w14 K14
     refine kb_row K14.out 3 rfl 133 _ _ (nilW) rfl rfl rfl rfl (size83) (by rfl) (by kernel_rfl) (py (h := ?_))
     intro w15 K15
     refine wpList_nil ?_
     go_upto_region 6 with fail
     refine lz (wz4 (.agg (nilW)) (.agg (nilW)) (.bool false) (.bool false) (h1 := by exact kb_all K15.out 3 rfl 133 _ rfl rfl Tryd.underlying133 rfl (size83)) (h2 := by exact run_build_of 133 [] rfl [] nilW rfl (by kernel_rfl)) (h3 := by have q := way_zero; go_simp) (h := wk (h := wk (h := wk (h := wk (h := wk (h := wk (h := wk (h := wk (h := wz1 (.bool false) (h1 := by exact run_pick_no (.tmp 24) (.tmp 32) (.const (.bool false)) _ rfl rfl rfl) (h := nz ?_)))))))))))
     go_wp2_with fail
     go_roundw
     case rel => exact ⟨k + 1, by omega, by go_num, by rw [best_no HX.out (by rw [← HF.out, hwb]; rfl)]; rw [← HF.out]; exact K15.out.sub (List.Sublist.cons_cons _ (List.Sublist.cons_cons _ (List.nil_sublist _)))⟩
     case measure => simp [intOf]; omega
   case true =>
    cases F with
    | none =>
     go_upto_region 3 with fail
     refine lz (wz1 (.bool true) (h1 := by have q := hlt; go_simp) (h := nz ?_))
     go_upto_region 4 with fail
     refine lz (wz3 (iV (k : Nat)) (pT g (k * 8)) (.agg (rpA x)) (h3 := by exact run_loadRange 76 _ rfl g (k * 8) rfl (rpA x) _ (R.out _ KR.out.below) Tryd.underlying76 rfl size47) (h := ?_))
     refine kb_alloc KR.out 76 (nil8) rfl z47 (by rfl) (pz (h := ?_))
     intro b11 w11 K11
     refine wz1 (iV (k : Nat)) (h := ?_)
     refine kb_row K11.out 2 rfl 76 _ _ (rpA x) rfl rfl rfl rfl (size47) (by rfl) (by kernel_rfl) (py (h := ?_))
     intro w12 K12
     refine wpList_nil ?_
     go_upto_region 5 with fail
     refine lz (wz4 (.agg (rpA x)) (.int .u64 (self : Nat)) (iV (k : Nat)) (iV ((k : Int) + 1)) (h1 := by exact kb_all K12.out 2 rfl 76 _ rfl rfl Tryd.underlying76 rfl (size47)) (h4 := by go_simp; exact wrap_i64r (by omega) (by omega)) (h := ?_))
     refine kb_call K12.out 68 #[.agg (rpA x), .int .u64 (self : Nat), .int .i64 ((k : Int) + 1)] (.agg (wyA (plusV x.v x.c) x.i ((k : Int) + 1))) (by rfl) (by go_simp) (by have q := way_any self x ((k : Int) + 1) OKX.out w12; rw [show wayA self x ((k : Int) + 1) = wyA (plusV x.v x.c) x.i ((k : Int) + 1) by unfold wayA; rw [hwb]; rfl] at q; exact q) (py (h := ?_))
     intro w13 K13
     refine kb_alloc K13.out 133 (nilW) rfl z83 (by rfl) (pz (h := ?_))
     intro b14 w14 K14
     refine kb_row K14.out 3 rfl 133 _ _ (wyA (plusV x.v x.c) x.i ((k : Int) + 1)) rfl rfl rfl rfl (size83) (by rfl) (by kernel_rfl) (py (h := ?_))
     intro w15 K15
     refine wpList_nil ?_
     go_upto_region 6 with fail
     refine lz (wz6 (.agg (wyA (plusV x.v x.c) x.i ((k : Int) + 1))) (.agg (nilW)) (.bool true) (.bool true) (.agg (firstA none)) (.agg (nilW)) (h1 := by exact kb_all K15.out 3 rfl 133 _ rfl rfl Tryd.underlying133 rfl (size83)) (h2 := by exact run_build_of 133 [] rfl [] nilW rfl (by kernel_rfl)) (h3 := by have q := way_some (plusV x.v x.c) x.i ((k : Int) + 1) (by omega); go_simp) (h5 := by exact kb_all K15.out 1 rfl 133 _ rfl rfl Tryd.underlying133 rfl ((by rw [first_size]; exact size83))) (h6 := by exact run_build_of 133 [] rfl [] nilW rfl (by kernel_rfl)) (h := wz2 (.bool true) (.bool true) (h1 := by have q : ∀ W, (Op.equalIn 10000 133 (.agg (firstA none)) (.agg nilW)).run Tryd.prog W = .ok true W := way_zero; go_simp) (h := wk (h := wk (h := wk (h := wz2 (.bool true) (.bool true) (h1 := by exact run_pick_yes (.tmp 28) (.const (.bool true)) (.tmp 31) _ rfl rfl rfl) (h2 := by exact run_pick_yes (.tmp 24) (.tmp 32) (.const (.bool false)) _ rfl rfl rfl) (h := nz ?_)))))))
     go_upto_region 7 with fail
     refine lz (wz1 (.agg (wyA (plusV x.v x.c) x.i ((k : Int) + 1))) (h1 := by exact kb_all K15.out 3 rfl 133 _ rfl rfl Tryd.underlying133 rfl (size83)) (h := ?_))
     refine kb_row K15.out 1 rfl 133 _ _ (wyA (plusV x.v x.c) x.i ((k : Int) + 1)) rfl rfl rfl rfl (size83) (by rfl) (by kernel_rfl) (py (h := ?_))
     intro w16 K16
     refine wpList_nil ?_
     go_wp2_with fail
     go_roundw
     case rel => exact ⟨k + 1, by omega, by go_num, by rw [best_yes HX.out (by rw [← HF.out, hwb]; rfl)]; exact K16.out.sub (List.Sublist.cons_cons _ (List.Sublist.cons_cons _ (List.nil_sublist _)))⟩
     case measure => simp [intOf]; omega
    | some y =>
     cases hah : aheadB x y.2
     case false =>
      go_upto_region 3 with fail
      refine lz (wz1 (.bool true) (h1 := by have q := hlt; go_simp) (h := nz ?_))
      go_upto_region 4 with fail
      refine lz (wz3 (iV (k : Nat)) (pT g (k * 8)) (.agg (rpA x)) (h3 := by exact run_loadRange 76 _ rfl g (k * 8) rfl (rpA x) _ (R.out _ KR.out.below) Tryd.underlying76 rfl size47) (h := ?_))
      refine kb_alloc KR.out 76 (nil8) rfl z47 (by rfl) (pz (h := ?_))
      intro b11 w11 K11
      refine wz1 (iV (k : Nat)) (h := ?_)
      refine kb_row K11.out 2 rfl 76 _ _ (rpA x) rfl rfl rfl rfl (size47) (by rfl) (by kernel_rfl) (py (h := ?_))
      intro w12 K12
      refine wpList_nil ?_
      go_upto_region 5 with fail
      refine lz (wz4 (.agg (rpA x)) (.int .u64 (self : Nat)) (iV (k : Nat)) (iV ((k : Int) + 1)) (h1 := by exact kb_all K12.out 2 rfl 76 _ rfl rfl Tryd.underlying76 rfl (size47)) (h4 := by go_simp; exact wrap_i64r (by omega) (by omega)) (h := ?_))
      refine kb_call K12.out 68 #[.agg (rpA x), .int .u64 (self : Nat), .int .i64 ((k : Int) + 1)] (.agg (wyA (plusV x.v x.c) x.i ((k : Int) + 1))) (by rfl) (by go_simp) (by have q := way_any self x ((k : Int) + 1) OKX.out w12; rw [show wayA self x ((k : Int) + 1) = wyA (plusV x.v x.c) x.i ((k : Int) + 1) by unfold wayA; rw [hwb]; rfl] at q; exact q) (py (h := ?_))
      intro w13 K13
      refine kb_alloc K13.out 133 (nilW) rfl z83 (by rfl) (pz (h := ?_))
      intro b14 w14 K14
      refine kb_row K14.out 3 rfl 133 _ _ (wyA (plusV x.v x.c) x.i ((k : Int) + 1)) rfl rfl rfl rfl (size83) (by rfl) (by kernel_rfl) (py (h := ?_))
      intro w15 K15
      refine wpList_nil ?_
      go_upto_region 6 with fail
      refine lz (wz6 (.agg (wyA (plusV x.v x.c) x.i ((k : Int) + 1))) (.agg (nilW)) (.bool true) (.bool true) (.agg (firstA (some y))) (.agg (nilW)) (h1 := by exact kb_all K15.out 3 rfl 133 _ rfl rfl Tryd.underlying133 rfl (size83)) (h2 := by exact run_build_of 133 [] rfl [] nilW rfl (by kernel_rfl)) (h3 := by have q := way_some (plusV x.v x.c) x.i ((k : Int) + 1) (by omega); go_simp) (h5 := by exact kb_all K15.out 1 rfl 133 _ rfl rfl Tryd.underlying133 rfl ((by rw [first_size]; exact size83))) (h6 := by exact run_build_of 133 [] rfl [] nilW rfl (by kernel_rfl)) (h := wz4 (.bool false) (.bool false) (.agg (wyA (plusV x.v x.c) x.i ((k : Int) + 1))) (.agg (firstA (some y))) (h1 := by have q : ∀ W, (Op.equalIn 10000 133 (.agg (firstA (some y))) (.agg nilW)).run Tryd.prog W = .ok false W := way_some (plusV y.2.v y.2.c) y.2.i ((y.1 : Int) + 1) (by omega); go_simp) (h3 := by exact kb_all K15.out 3 rfl 133 _ rfl rfl Tryd.underlying133 rfl (size83)) (h4 := by exact kb_all K15.out 1 rfl 133 _ rfl rfl Tryd.underlying133 rfl ((by rw [first_size]; exact size83))) (h := ?_)))
      refine kb_call K15.out 69 #[.agg (wyA (plusV x.v x.c) x.i ((k : Int) + 1)), .agg (firstA (some y))] (.bool false) (by rfl) (by go_simp) (by have q := waheadW_any (plusV x.v x.c) (plusV y.2.v y.2.c) x.i y.2.i ((k : Int) + 1) ((y.1 : Int) + 1) w15; rw [show (if eqV (plusV x.v x.c) (plusV y.2.v y.2.c) then decide (x.i < y.2.i) else lessV (plusV x.v x.c) (plusV y.2.v y.2.c)) = false from hah] at q; exact q) (py (h := ?_))
      intro w16 K16
      refine wz2 (.bool false) (.bool false) (h1 := by exact run_pick_no (.tmp 28) (.const (.bool true)) (.tmp 31) _ rfl rfl rfl) (h2 := by exact run_pick_yes (.tmp 24) (.tmp 32) (.const (.bool false)) _ rfl rfl rfl) (h := nz ?_)
      go_wp2_with fail
      go_roundw
      case rel => exact ⟨k + 1, by omega, by go_num, by rw [best_no HX.out (by rw [← HF.out, hwb]; exact hah)]; rw [← HF.out]; exact K16.out.sub (List.Sublist.cons_cons _ (List.Sublist.cons_cons _ (List.nil_sublist _)))⟩
      case measure => simp [intOf]; omega
     case true =>
      go_upto_region 3 with fail
      refine lz (wz1 (.bool true) (h1 := by have q := hlt; go_simp) (h := nz ?_))
      go_upto_region 4 with fail
      refine lz (wz3 (iV (k : Nat)) (pT g (k * 8)) (.agg (rpA x)) (h3 := by exact run_loadRange 76 _ rfl g (k * 8) rfl (rpA x) _ (R.out _ KR.out.below) Tryd.underlying76 rfl size47) (h := ?_))
      refine kb_alloc KR.out 76 (nil8) rfl z47 (by rfl) (pz (h := ?_))
      intro b11 w11 K11
      refine wz1 (iV (k : Nat)) (h := ?_)
      refine kb_row K11.out 2 rfl 76 _ _ (rpA x) rfl rfl rfl rfl (size47) (by rfl) (by kernel_rfl) (py (h := ?_))
      intro w12 K12
      refine wpList_nil ?_
      go_upto_region 5 with fail
      refine lz (wz4 (.agg (rpA x)) (.int .u64 (self : Nat)) (iV (k : Nat)) (iV ((k : Int) + 1)) (h1 := by exact kb_all K12.out 2 rfl 76 _ rfl rfl Tryd.underlying76 rfl (size47)) (h4 := by go_simp; exact wrap_i64r (by omega) (by omega)) (h := ?_))
      refine kb_call K12.out 68 #[.agg (rpA x), .int .u64 (self : Nat), .int .i64 ((k : Int) + 1)] (.agg (wyA (plusV x.v x.c) x.i ((k : Int) + 1))) (by rfl) (by go_simp) (by have q := way_any self x ((k : Int) + 1) OKX.out w12; rw [show wayA self x ((k : Int) + 1) = wyA (plusV x.v x.c) x.i ((k : Int) + 1) by unfold wayA; rw [hwb]; rfl] at q; exact q) (py (h := ?_))
      intro w13 K13
      refine kb_alloc K13.out 133 (nilW) rfl z83 (by rfl) (pz (h := ?_))
      intro b14 w14 K14
      refine kb_row K14.out 3 rfl 133 _ _ (wyA (plusV x.v x.c) x.i ((k : Int) + 1)) rfl rfl rfl rfl (size83) (by rfl) (by kernel_rfl) (py (h := ?_))
      intro w15 K15
      refine wpList_nil ?_
      go_upto_region 6 with fail
      refine lz (wz6 (.agg (wyA (plusV x.v x.c) x.i ((k : Int) + 1))) (.agg (nilW)) (.bool true) (.bool true) (.agg (firstA (some y))) (.agg (nilW)) (h1 := by exact kb_all K15.out 3 rfl 133 _ rfl rfl Tryd.underlying133 rfl (size83)) (h2 := by exact run_build_of 133 [] rfl [] nilW rfl (by kernel_rfl)) (h3 := by have q := way_some (plusV x.v x.c) x.i ((k : Int) + 1) (by omega); go_simp) (h5 := by exact kb_all K15.out 1 rfl 133 _ rfl rfl Tryd.underlying133 rfl ((by rw [first_size]; exact size83))) (h6 := by exact run_build_of 133 [] rfl [] nilW rfl (by kernel_rfl)) (h := wz4 (.bool false) (.bool false) (.agg (wyA (plusV x.v x.c) x.i ((k : Int) + 1))) (.agg (firstA (some y))) (h1 := by have q : ∀ W, (Op.equalIn 10000 133 (.agg (firstA (some y))) (.agg nilW)).run Tryd.prog W = .ok false W := way_some (plusV y.2.v y.2.c) y.2.i ((y.1 : Int) + 1) (by omega); go_simp) (h3 := by exact kb_all K15.out 3 rfl 133 _ rfl rfl Tryd.underlying133 rfl (size83)) (h4 := by exact kb_all K15.out 1 rfl 133 _ rfl rfl Tryd.underlying133 rfl ((by rw [first_size]; exact size83))) (h := ?_)))
      refine kb_call K15.out 69 #[.agg (wyA (plusV x.v x.c) x.i ((k : Int) + 1)), .agg (firstA (some y))] (.bool true) (by rfl) (by go_simp) (by have q := waheadW_any (plusV x.v x.c) (plusV y.2.v y.2.c) x.i y.2.i ((k : Int) + 1) ((y.1 : Int) + 1) w15; rw [show (if eqV (plusV x.v x.c) (plusV y.2.v y.2.c) then decide (x.i < y.2.i) else lessV (plusV x.v x.c) (plusV y.2.v y.2.c)) = true from hah] at q; exact q) (py (h := ?_))
      intro w16 K16
      refine wz2 (.bool true) (.bool true) (h1 := by exact run_pick_no (.tmp 28) (.const (.bool true)) (.tmp 31) _ rfl rfl rfl) (h2 := by exact run_pick_yes (.tmp 24) (.tmp 32) (.const (.bool false)) _ rfl rfl rfl) (h := nz ?_)
      go_upto_region 7 with fail
      refine lz (wz1 (.agg (wyA (plusV x.v x.c) x.i ((k : Int) + 1))) (h1 := by exact kb_all K16.out 3 rfl 133 _ rfl rfl Tryd.underlying133 rfl (size83)) (h := ?_))
      refine kb_row K16.out 1 rfl 133 _ _ (wyA (plusV x.v x.c) x.i ((k : Int) + 1)) rfl rfl rfl rfl (size83) (by rfl) (by kernel_rfl) (py (h := ?_))
      intro w17 K17
      refine wpList_nil ?_
      go_wp2_with fail
      go_roundw
      case rel => exact ⟨k + 1, by omega, by go_num, by rw [best_yes HX.out (by rw [← HF.out, hwb]; exact hah)]; exact K17.out.sub (List.Sublist.cons_cons _ (List.Sublist.cons_cons _ (List.nil_sublist _)))⟩
      case measure => simp [intOf]; omega
end
section
open Go.RowKit
attribute [local irreducible] wpQuiet wpList
theorem z44 : ∀ W : World, (zeroValue 71).run Tryd.prog W = .ok (.agg nil4) W := fun W => Tryd.zeroValue71 W
def vcC (x : Vc) : List Value := (vcA x).toList
theorem in_len (x : Int) : (inC x).length = 1 := rfl
theorem vc_len (x : Vc) : (vcC x).length = 4 := rfl
theorem vc_one (x : Vc) : ∀ u ∈ vcC x, u.oneCell' = true := by
 have := vcA_one x
 rw [Array.all_eq_true'] at this
 intro u hu
 exact this u (by simpa [vcC] using hu)
theorem info44' : ∃ i z b, Tryd.prog.info? 71 = some i ∧ i.zero = some z ∧ i.size = 4 ∧ i.bytes = b ∧ z.cells.size = 4 ∧ b ≤ 1000 := by
 obtain ⟨i, h1, h3, h4, h5⟩ := info_parts (show (Tryd.prog.info? 71).map (fun i => (i.zero, i.size, i.bytes)) = some (some (.agg nil4), 4, 32) by kernel_rfl)
 exact ⟨i, _, _, h1, h3, h4, h5, rfl, by decide⟩
theorem vcT : ElT Tryd.prog 77 71 4 vcC := ⟨Tryd.underlying77, info44', by decide, vc_len, vc_one⟩
set_option maxRecDepth 100000 in
theorem one_in5 (x : Int) : ∀ W : World, (Instr.buildSlice 45 1 #[(0, .int .i64 x)]).run Tryd.prog W = .ok (.slice (some ⟨W.heap.size, 0, none⟩) 1 1) (W.alloc (.cells #[.int .i64 x] 3)) := fun W => by
 have u := Tryd.underlying45
 go_simp
set_option maxRecDepth 100000 in
theorem one_vc (x : Vc) : ∀ W : World, (Instr.buildSlice 77 1 #[(0, vcV x)]).run Tryd.prog W = .ok (.slice (some ⟨W.heap.size, 0, none⟩) 1 1) (W.alloc (.cells (vcA x) 71)) := fun W => by
 have u := Tryd.underlying77
 go_simp
def chA (R C : Nat) (P : Int) (v1 v2 : Value) : Array Value := #[.int .u64 (R : Nat), .int .u32 (C : Nat), .int .i64 P, v1, v2]
structure ChW (w : World) (R C : Nat) (P : Int) (b4 b5 : Nat) (v1 v2 : Value) (l1 : List Int) (l2 : List Vc) (wr : World) : Prop where
 below : Below w.heap.size w wr
 k4 : Blk wr b4 nilCh 79
 k5 : Blk wr b5 (chA R C P v1 v2) 79
 n4 : w.heap.size ≤ b4
 n5 : w.heap.size ≤ b5
 n45 : b4 ≠ b5
 o1 : Own wr w.heap.size 3 1 inC v1 l1
 o2 : Own wr w.heap.size 71 4 vcC v2 l2
 a14 : v1.ownBlock ≠ some b4
 a15 : v1.ownBlock ≠ some b5
 a24 : v2.ownBlock ≠ some b4
 a25 : v2.ownBlock ≠ some b5
 a12 : ∀ q, v1.ownBlock = some q → v2.ownBlock ≠ some q
section
variable {w wr w' : World} {R C : Nat} {P : Int} {b4 b5 : Nat} {v1 v2 u : Value} {l1 m1 : List Int} {l2 m2 : List Vc}
theorem ChW.next (h : ChW w R C P b4 b5 v1 v2 l1 l2 wr) (hb : Below wr.heap.size wr w') : ChW w R C P b4 b5 v1 v2 l1 l2 w' :=
 ⟨h.below.trans (hb.mono h.below.size), h.k4.below hb h.k4.lt, h.k5.below hb h.k5.lt, h.n4, h.n5, h.n45, h.o1.next hb, h.o2.next hb, h.a14, h.a15, h.a24, h.a25, h.a12⟩
theorem ChW.put1 (h : ChW w R C P b4 b5 v1 v2 l1 l2 wr) (hg : wr.grownBy w' v1.ownBlock) (ho : Own w' w.heap.size 3 1 inC u m1) (hb : ∀ k, u.ownBlock = some k → v1.ownBlock = some k ∨ wr.heap.size ≤ k) :
 ChW w R C P b4 b5 u v2 m1 l2 (w'.setCell ⟨b5, 3, none⟩ u) := by
 have k5 := h.k5.grown hg (fun e => h.a15 e.symm)
 have k4 := h.k4.grown hg (fun e => h.a14 e.symm)
 have o2 : Own w' w.heap.size 71 4 vcC v2 l2 := h.o2.kept hg (by
  cases c : v2.ownBlock with
  | none => exact .inl rfl
  | some q => exact .inr fun e => h.a12 q e.symm c)
 have u5 : u.ownBlock ≠ some b5 := fun e => by
  rcases hb b5 e with c | c
  ·
   exact h.a15 c
  ·
   have := h.k5.lt; omega
 refine ⟨(grownBelow h.below hg (fun k hk => (h.o1.lt k hk).1) h.below.size).setCell h.n5 _, k4.other (a := ⟨b5, 3, none⟩) (fun e => h.n45 e.symm) _, k5.set 3 u, h.n4, h.n5, h.n45, ho.setCell (fun e => u5 e) _, o2.setCell (fun e => h.a25 e) _, fun e => ?_, u5, h.a24, h.a25, fun q e => ?_⟩
 ·
  rcases hb b4 e with c | c
  ·
   exact h.a14 c
  ·
   have := h.k4.lt; omega
 ·
  intro e2
  rcases hb q e with c | c
  ·
   exact h.a12 q c e2
  ·
   have := (h.o2.lt q e2).2; omega
theorem ChW.put2 (h : ChW w R C P b4 b5 v1 v2 l1 l2 wr) (hg : wr.grownBy w' v2.ownBlock) (ho : Own w' w.heap.size 71 4 vcC u m2) (hb : ∀ k, u.ownBlock = some k → v2.ownBlock = some k ∨ wr.heap.size ≤ k) :
 ChW w R C P b4 b5 v1 u l1 m2 (w'.setCell ⟨b5, 4, none⟩ u) := by
 have k5 := h.k5.grown hg (fun e => h.a25 e.symm)
 have k4 := h.k4.grown hg (fun e => h.a24 e.symm)
 have o1 : Own w' w.heap.size 3 1 inC v1 l1 := h.o1.kept hg (by
  cases c : v1.ownBlock with
  | none => exact .inl rfl
  | some q => exact .inr fun e => h.a12 q c e.symm)
 have u5 : u.ownBlock ≠ some b5 := fun e => by
  rcases hb b5 e with c | c
  ·
   exact h.a25 c
  ·
   have := h.k5.lt; omega
 refine ⟨(grownBelow h.below hg (fun k hk => (h.o2.lt k hk).1) h.below.size).setCell h.n5 _, k4.other (a := ⟨b5, 4, none⟩) (fun e => h.n45 e.symm) _, k5.set 4 u, h.n4, h.n5, h.n45, o1.setCell (fun e => h.a15 e) _, ho.setCell (fun e => u5 e) _, h.a14, h.a15, fun e => ?_, u5, fun q e => ?_⟩
 ·
  rcases hb b4 e with c | c
  ·
   exact h.a24 c
  ·
   have := h.k4.lt; omega
 ·
  intro e2
  rcases hb q e2 with c | c
  ·
   exact h.a12 q e c
  ·
   have := (h.o1.lt q e).2; omega
end
theorem ApW.start05 {α : Type} {B : Nat} {e : TypeId} {size : Nat} {enc : α → List Value} {w1 : World} {cur vS vR : Value} {l : List α} {x : α} (h : Own w1 B e size enc cur l) (hB : B ≤ w1.heap.size) : ApW w1 B e size enc cur l x false false vS vR w1 :=
 ⟨World.grownBy.refl w1 _, fun _ => h, (fun q => Bool.noConfusion q), (fun q => Bool.noConfusion q), (fun q => Bool.noConfusion q), (fun q => Bool.noConfusion q), hB⟩
theorem wpList_made5 {P : Program} {ops : Array Oper} {Q : Exit → Act → World → Prop} {a : Act} {w w' : World} {rest : List Oper} {o : Oper} (v : Value) (hw : Region.wanted o (yielded ops a.tmps) = true)
 (hrun : (execOp a.eval o).run P w = .ok (.value v) w') (h : wpList P ops Q rest (a.put o.dst v) w') : wpList P ops Q (o :: rest) a w :=
 BigFrame.wpList_want hw fun K hK => by unfold Oper.wp; simp only [hrun]; exact hK _ _ h
theorem wpList_op {P : Program} {ops : Array Oper} {Q : Exit → Act → World → Prop} {a a' : Act} {w w' : World} {rest : List Oper} {o : Oper} (hw : Region.wanted o (yielded ops a.tmps) = true)
 (hrun : ∀ K : Act → World → Prop, K a' w' → o.wp P a w K Q) (h : wpList P ops Q rest a' w') : wpList P ops Q (o :: rest) a w :=
 BigFrame.wpList_want hw fun K hK => hrun K (hK _ _ h)
def tellsV (self R C : Nat) (x : Rp) : Vc := ⟨R, C, self, x.i⟩
def rolesK (self R C : Nat) (l : List Rp) (k : Nat) : List Int := (l.take k).map fun x => roleN self (tellsV self R C x) x
def tellsK (self R C : Nat) (l : List Rp) (k : Nat) : List Vc := (l.take k).map (tellsV self R C)
theorem tk_step {α β : Type} (f : α → β) {l : List α} {k : Nat} {y : α} (h : l[k]? = some y) : (l.take k).map f ++ [f y] = (l.take (k + 1)).map f := by
 rw [List.take_add_one, h]
 simp
theorem tk_len {α β : Type} (f : α → β) {l : List α} {k : Nat} (h : k ≤ l.length) : ((l.take k).map f).length = k := by rw [List.length_map, List.length_take]; omega
def fromC (n : Nat) : Code → Option Code
 | .region id ops d => if id = n then some (.region id ops d) else none
 | .seq x y => match fromC n x with
  | some x' => some (.seq x' y)
  | none => fromC n y
 | .block _ c => fromC n c
 | .scope c => fromC n c
 | _ => none
noncomputable def tail11 (n : Nat) : Code := ((Tryd.f22.body.bind (fromC n)).getD .skip)
end
end Go.Proofs.YteeinlbhcdpnnaaDoor
