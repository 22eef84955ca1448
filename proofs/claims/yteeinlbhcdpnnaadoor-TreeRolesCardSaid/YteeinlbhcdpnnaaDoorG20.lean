import Derived.Test.YteeinlbhcdpnnaaDoorG4
import Derived.Test.YteeinlbhcdpnnaaDoorG9
import Derived.Test.YteeinlbhcdpnnaaDoorG14
import Derived.Test.YteeinlbhcdpnnaaDoorG18
import Derived.Test.YteeinlbhcdpnnaaDoorG19
import Derived.Test.YteeinlbhcdpnnaaDoorG11
import Derived.Test.YteeinlbhcdpnnaaDoorG10
import Derived.Test.YteeinlbhcdpnnaaDoorG2
set_option linter.unusedSimpArgs false
set_option linter.unusedVariables false
namespace Go.Proofs.YteeinlbhcdpnnaaDoor
section
open Go.RowKit
attribute [local irreducible] wpQuiet wpList
set_option maxRecDepth 100000 in
set_option maxHeartbeats 8000000 in
theorem spread_any {T b n m : Nat} {a : Option Addr} {v2 v3 v4 tv fv : Value} {t : TS} {w : World} {ip : Nat} {x : Po} (h : Tact w ⟨T, b, a, n, m, v2, v3, v4⟩ tv fv t) (hx : t.s.po[ip]? = some x) (hfl : t.fl.length + n ≤ 1000) : Calls Tryd.prog 63 #[.pointer (some ⟨b, 0, none⟩), .int .i64 (ip : Nat)] w fun e w' => e = .returned (.tuple #[]) ∧ Done w ⟨T, b, a, n, m, v2, v3, v4⟩ tv fv (spreadM t ip) w' := by
 have HFL0 := Lib.hid hfl
 clear hfl
 obtain ⟨tF, htF⟩ : ∃ z, z = spreadM t ip := ⟨_, rfl⟩
 rw [← htF]
 have HTF := Lib.hid htF
 clear htF
 have LEN := Lib.hid h.len
 obtain ⟨g, rfl⟩ : ∃ g, a = some ⟨g, 0, none⟩ := h.ptr hx
 have HX := Lib.hid hx
 have HLT := Lib.hid (show ip < n by have q := (List.getElem?_eq_some_iff.1 hx).1; have q2 := h.len.1; exact Nat.lt_of_lt_of_eq q q2.symm)
 clear hx
 obtain ⟨F, hF⟩ : ∃ F, F = foot ⟨T, b, some ⟨g, 0, none⟩, n, m, v2, v3, v4⟩ tv fv := ⟨_, rfl⟩
 have HF := Lib.hid hF
 have K := Lib.hid (show Ta ⟨w, ⟨T, b, some ⟨g, 0, none⟩, n, m, v2, v3, v4⟩, F⟩ [] t w from hF ▸ h.start)
 clear hF h
 go_enter Tryd.func63, Tryd.ntmps63
 go_upto_region 0 with fail
 have e1 : tF = sprTo (twoH t) ip t n := by
  have q : n = t.s.po.length := LEN.out.1
  rw [HTF.out, q]; rfl
 have HE1 := Lib.hid e1
 clear e1
 refine lz (wz6 (pT b 0) (pT b 0) (pT b 0) (pT b 6) (.slice (some ⟨g, 0, none⟩) n m) (iV (n : Nat)) (h5 := by have q : w.cell? ⟨b, 6, none⟩ = some (.slice (some ⟨g, 0, none⟩) n m) := K.out.acell 6 rfl; go_simp) (h := wz1 (iV 0) (h := nz ?_)))
 go_upto_region 1 with fail
 go_loopw [12] (fun i wr => ∃ k : Nat, k ≤ n ∧ i = .int .i64 k ∧ Ta ⟨w, ⟨T, b, some ⟨g, 0, none⟩, n, m, v2, v3, v4⟩, F⟩ [] (sprTo (twoH t) ip t k) wr) (fun i _ => (n - intOf i).toNat)
 case atStart => exact ⟨0, Nat.zero_le _, rfl, K.out⟩
 case round =>
  obtain ⟨k, hk, rfl, hK⟩ := hrel
  obtain ⟨t2, ht2⟩ : ∃ z, z = sprTo (twoH t) ip t k := ⟨_, rfl⟩
  rw [← ht2] at hK
  have KR := Lib.hid hK
  have HT2 := Lib.hid ht2
  have HK := Lib.hid hk
  have HC2 := Lib.hid (show t2.s.cf = t.s.cf ∧ t2.fl.length ≤ t.fl.length + k by have q := sprTo_is (twoH t) ip t k; rw [← ht2] at q; exact ⟨q.2.1, q.2.2.1⟩)
  clear hK ht2 hk
  have i1 : (n : Int) ≤ 100 := by have q : n ≤ 100 := KR.out.few; omega
  by_cases hlt : k < n
  case neg =>
   have HLT := Lib.hid hlt
   clear hlt
   go_upto_region 1 with fail
   refine lz (wz1 (.bool false) (h1 := by have q := HLT.out; go_simp) (h := nz ?_))
   have hkn : n = k := by have q1 := HK.out; have q2 := HLT.out; omega
   have KZ := Lib.hid (show Ta ⟨w, ⟨T, b, some ⟨g, 0, none⟩, n, m, v2, v3, v4⟩, F⟩ [] tF wr from by rw [show tF = t2 from by rw [HE1.out, hkn, ← HT2.out]]; exact KR.out)
   go_wp2_with fail
   go_end0
   exact ⟨rfl, by have q := KZ.out; rw [HF.out] at q; exact q.done⟩
  case pos =>
   have HLK := Lib.hid hlt
   obtain ⟨y, hy⟩ : ∃ y, t2.s.po[k]? = some y := ⟨_, List.getElem?_eq_getElem (show k < t2.s.po.length by have q1 : n = t2.s.po.length := KR.out.len.1; omega)⟩
   have HY := Lib.hid hy
   clear hy
   have HKB := Lib.hid (show (k : Int) < 100 by omega)
   have HFL := Lib.hid (show t2.fl.length ≤ 1000 by have q1 := HC2.out.2; have q2 := HFL0.out; omega)
   clear hlt
   go_upto_region 1 with fail
   refine lz (wz1 (.bool true) (h1 := by have q := HLK.out; go_simp) (h := nz ?_))
   go_upto_region 2 with fail
   refine lz (wz3 (iV (k : Nat)) (pT g (k * 21)) (.agg (poA y)) (h2 := by have q1 : k < n := HLK.out; have q2 : n ≤ m := LEN.out.2.1; go_simp) (h3 := by exact run_loadRange 73 _ rfl g (k * 21) rfl (poA y) _ (KR.out.prange rfl HY.out) Tryd.underlying73 rfl (po_info _)) (h := ?_))
   refine ta_alloc KR.out 73 (nil21) rfl z50 (by rfl) (pz (h := ?_))
   intro b2 w2 K2
   refine wz1 (iV (k : Nat)) (h := ?_)
   refine ta_row K2.out 0 rfl 73 _ _ (poA y) rfl rfl rfl rfl (size50) (by rfl) (po_all _) (py (h := ?_))
   intro w3 K3
   refine wpList_nil ?_
   go_upto_region 3 with fail
   by_cases hki : (k : Int) = (ip : Int)
   case pos =>
    have hkn : k = ip := by omega
    have HKI := Lib.hid hki
    clear hki
    have HKN := Lib.hid hkn
    clear hkn
    refine lz (wz4 (iV (k : Nat)) (iV (ip : Nat)) (.bool false) (.bool false) (h3 := by have q := HKI.out; go_simp) (h := wk (h := wk (h := wz2 (.bool false) (.bool false) (h1 := by exact run_pick_no (.tmp 20) (.tmp 22) (.const (.bool false)) _ rfl rfl rfl) (h := wk (h := wk (h := wz1 (.bool false) (h1 := by exact run_pick_no (.tmp 24) (.tmp 26) (.const (.bool false)) _ rfl rfl rfl) (h := nz ?_))))))))
    have K3y := Lib.hid (Ta.left (l := []) K3.out)
    have hlt := HLK.out
    go_wp2_with fail
    go_roundw
    case rel => exact ⟨k + 1, HLK.out, by go_num, by rw [show sprTo (twoH t) ip t (k + 1) = t2 from by show sprStep (twoH t) ip (sprTo (twoH t) ip t k) k = _; rw [← HT2.out]; unfold sprStep; rw [HY.out]; exact if_pos (Or.inl HKN.out)]; exact K3y.out⟩
    case measure => have := HLK.out; simp [intOf]; omega
   case neg =>
    have hkn : ¬ k = ip := by omega
    have HKI := Lib.hid hki
    clear hki
    have HKN := Lib.hid hkn
    clear hkn
    rcases (show innerB y = true ∨ innerB y = false by cases innerB y <;> simp) with hin | hin
    case inr =>
     have HIN := Lib.hid hin
     clear hin
     refine lz (wz5 (iV (k : Nat)) (iV (ip : Nat)) (.bool true) (.bool true) (.agg (poA y)) (h3 := by have q := HKI.out; go_simp) (h5 := by exact ta_all K3.out 0 rfl 73 _ rfl rfl Tryd.underlying73 rfl (size50)) (h := ?_))
     refine ta_call K3.out 75 #[.agg (poA y)] (.bool false) (by rfl) (by go_simp) (inner_is y false HIN.out w3) (py (h := ?_))
     intro w4 K4
     refine wz2 (.bool false) (.bool false) (h1 := by exact run_pick_yes (.tmp 20) (.tmp 22) (.const (.bool false)) _ rfl rfl rfl) (h := wk (h := wk (h := wz1 (.bool false) (h1 := by exact run_pick_no (.tmp 24) (.tmp 26) (.const (.bool false)) _ rfl rfl rfl) (h := nz ?_))))
     have K4y := Lib.hid (Ta.left (l := []) K4.out)
     have hlt := HLK.out
     go_wp2_with fail
     go_roundw
     case rel => exact ⟨k + 1, HLK.out, by go_num, by rw [show sprTo (twoH t) ip t (k + 1) = t2 from by show sprStep (twoH t) ip (sprTo (twoH t) ip t k) k = _; rw [← HT2.out]; unfold sprStep; rw [HY.out]; exact if_pos (Or.inr (Or.inl HIN.out))]; exact K4y.out⟩
     case measure => have := HLK.out; simp [intOf]; omega
    case inl =>
     have HIN := Lib.hid hin
     clear hin
     rcases (show linkB y = true ∨ linkB y = false by cases linkB y <;> simp) with hli | hli
     case inr =>
      have HLI := Lib.hid hli
      clear hli
      refine lz (wz5 (iV (k : Nat)) (iV (ip : Nat)) (.bool true) (.bool true) (.agg (poA y)) (h3 := by have q := HKI.out; go_simp) (h5 := by exact ta_all K3.out 0 rfl 73 _ rfl rfl Tryd.underlying73 rfl (size50)) (h := ?_))
      refine ta_call K3.out 75 #[.agg (poA y)] (.bool true) (by rfl) (by go_simp) (inner_is y true HIN.out w3) (py (h := ?_))
      intro w4 K4
      refine wz3 (.bool true) (.bool true) (.agg (poA y)) (h1 := by exact run_pick_yes (.tmp 20) (.tmp 22) (.const (.bool false)) _ rfl rfl rfl) (h3 := by exact ta_all K4.out 0 rfl 73 _ rfl rfl Tryd.underlying73 rfl (size50)) (h := ?_)
      refine ta_call K4.out 76 #[.agg (poA y)] (.bool false) (by rfl) (by go_simp) (linked_is y false HLI.out w4) (py (h := ?_))
      intro w5 K5
      refine wz1 (.bool false) (h1 := by exact run_pick_yes (.tmp 24) (.tmp 26) (.const (.bool false)) _ rfl rfl rfl) (h := nz ?_)
      have K5y := Lib.hid (Ta.left (l := []) K5.out)
      have hlt := HLK.out
      go_wp2_with fail
      go_roundw
      case rel => exact ⟨k + 1, HLK.out, by go_num, by rw [show sprTo (twoH t) ip t (k + 1) = t2 from by show sprStep (twoH t) ip (sprTo (twoH t) ip t k) k = _; rw [← HT2.out]; unfold sprStep; rw [HY.out]; exact if_pos (Or.inr (Or.inr HLI.out))]; exact K5y.out⟩
      case measure => have := HLK.out; simp [intOf]; omega
     case inl =>
      have HLI := Lib.hid hli
      clear hli
      refine lz (wz5 (iV (k : Nat)) (iV (ip : Nat)) (.bool true) (.bool true) (.agg (poA y)) (h3 := by have q := HKI.out; go_simp) (h5 := by exact ta_all K3.out 0 rfl 73 _ rfl rfl Tryd.underlying73 rfl (size50)) (h := ?_))
      refine ta_call K3.out 75 #[.agg (poA y)] (.bool true) (by rfl) (by go_simp) (inner_is y true HIN.out w3) (py (h := ?_))
      intro w4 K4
      refine wz3 (.bool true) (.bool true) (.agg (poA y)) (h1 := by exact run_pick_yes (.tmp 20) (.tmp 22) (.const (.bool false)) _ rfl rfl rfl) (h3 := by exact ta_all K4.out 0 rfl 73 _ rfl rfl Tryd.underlying73 rfl (size50)) (h := ?_)
      refine ta_call K4.out 76 #[.agg (poA y)] (.bool true) (by rfl) (by go_simp) (linked_is y true HLI.out w4) (py (h := ?_))
      intro w5 K5
      refine wz1 (.bool true) (h1 := by exact run_pick_yes (.tmp 24) (.tmp 26) (.const (.bool false)) _ rfl rfl rfl) (h := nz ?_)
      go_upto_region 4 with fail
      refine lz (wz2 (pT b 0) (iV (k : Nat)) (h := ?_))
      refine ta_act K5.out 74 #[.pointer (some ⟨b, 0, none⟩), .int .i64 (k : Nat)] (t2.setPo (t2.s.po.set k (chP y (twoH t2)))) (by rfl) (by go_simp) (fun tv fv h => alert_any h HY.out) (py (h := ?_))
      intro w6 K6
      refine wpList_nil ?_
      obtain ⟨t3, ht3⟩ : ∃ z, z = t2.setPo (t2.s.po.set k (chP y (twoH t2))) := ⟨_, rfl⟩
      have HT3 := Lib.hid ht3
      have K3x := Lib.hid (show Ta ⟨w, ⟨T, b, some ⟨g, 0, none⟩, n, m, v2, v3, v4⟩, F⟩ [(b2, poA y, 73)] t3 w6 from ht3 ▸ K6.out)
      clear ht3
      have HFL3 := Lib.hid (show t3.fl.length ≤ 1000 by rw [HT3.out]; exact HFL.out)
      go_upto_region 5 with fail
      obtain ⟨tv2, fv2, hA1, hA2, hA3⟩ := K3x.out.act
      have HA1 := Lib.hid hA1
      have HA2 := Lib.hid hA2
      have HA3 := Lib.hid hA3
      clear hA1 hA2 hA3
      have KF := Lib.hid (show w6.cell? ⟨b, 26, none⟩ = some fv2 from HA1.out.blk.cell 26)
      refine lz (wz6 (pT b 0) (pT b 0) (pT b 0) (pT b 25) (pT b 26) (fv2) (h6 := by have q := KF.out; go_simp) (h := wz2 (iV (k : Nat)) (iV ((k : Int) + 1)) (h2 := by have q := HKB.out; go_simp; try exact wrap_i64 (by omega) (by omega)) (h := ?_)))
      have AW1 := Lib.hid (ApW.made inT (ApW.start0 (x := ((k : Int) + 1)) (vS := undef) (vR := undef) HA1.out.of (Nat.zero_le _)) rfl #[.int .i64 ((k : Int) + 1)] rfl)
      refine wpList_made (.slice (some ⟨w6.heap.size, 0, none⟩) 1 1) (by rfl) (run_bs1 45 (.tmp 38) rfl (.int .i64 ((k : Int) + 1)) _ rfl (one_in ((k : Int) + 1) w6)) ?_
      (try simp only [Act.put, gA, gS, gZ, sA, sZ, sS])
      obtain ⟨vR, wA, hrun, hA⟩ := AW1.out.app inT rfl rfl (by have := HFL3.out; omega) 45
      obtain ⟨q', r', eu, -⟩ := (hA.pr rfl).shape
      subst eu
      have AW2 := Lib.hid hA
      refine wpList_append_lst rfl _ _ 45 rfl _ wA hrun ?_
      (try simp only [Act.put, gA, gS, gZ, sA, sZ, sS])
      clear hrun hA
      refine wz3 (pT b 0) (pT b 25) (pT b 26) (h := ?_)
      refine ta_flush K3x.out HA1.out HA2.out HA3.out AW2.out 45 _ _ rfl (by rfl) rfl rfl (fun W h1 h2 => by go_simp) ?_
      clear HA1 HA2 HA3 KF AW1 AW2
      intro w7 hk
      have K7 := Lib.hid (show Ta ⟨w, ⟨T, b, some ⟨g, 0, none⟩, n, m, v2, v3, v4⟩, F⟩ [(b2, poA y, 73)] ((t3.flush ((k : Int) + 1))) w7 from hk)
      clear hk
      (try simp only [Act.put, gA, gS, gZ, sA, sZ, sS])
      refine wpList_nil ?_
      have K7y := Lib.hid (Ta.left (l := []) K7.out)
      have hlt := HLK.out
      go_wp2_with fail
      go_roundw
      case rel => exact ⟨k + 1, HLK.out, by go_num, by rw [show sprTo (twoH t) ip t (k + 1) = (t3.flush ((k : Int) + 1)) from by show sprStep (twoH t) ip (sprTo (twoH t) ip t k) k = _; rw [← HT2.out]; unfold sprStep; rw [HY.out]; show (if _ then _ else _) = _; rw [if_neg (fun q => q.elim HKN.out (fun q => q.elim (fun e => by rw [HIN.out] at e; exact Bool.noConfusion e) (fun e => by rw [HLI.out] at e; exact Bool.noConfusion e))), HT3.out, twoH_cf HC2.out.1]]; exact K7y.out⟩
      case measure => have := HLK.out; simp [intOf]; omega
end
section
open Go.RowKit
attribute [local irreducible] wpQuiet wpList
def takeM (t : TS) (i : Nat) (q : Pd) (v : Vc) : TS := match t.s.po[i]? with
 | some y =>
  let t1 := t.setPo (t.s.po.set i (hearP y (vecN y) v (IntKind.i64.wrap q.p12) t.s.cf))
  let k := hearN y (vecN y) v (IntKind.i64.wrap q.p12) t.s.cf
  if k = 1 then (if (hearP y (vecN y) v (IntKind.i64.wrap q.p12) t.s.cf).p10 = 4 then tellM t1 i else t1)
  else if k = 2 ∨ k = 3 then (if q.p2 = true then answerM (chooseM t1) i else chooseM t1)
  else t1
 | none => t
def plainP (x : Po) : Po := { x with p8 := false }
def hearM (t : TS) (i : Nat) (q : Pd) (v : Vc) : TS := match t.s.po[i]? with
 | some y =>
  let t1 := t.setPo (t.s.po.set i (plainP y))
  let t2 := if q.p0 = 128 ∨ q.p1 = true then spreadM t1 i else t1
  if q.p0 = 128 then t2 else if q.p0 = 2 ∧ (q.p7 = 2 ∨ q.p7 = 1) then agreeM t2 i q v else takeM t2 i q v
 | none => t
theorem hearN_is (x : Po) (u v : Vc) (a : Int) (c : Cf) : hearN x u v a c = 0 ∨ hearN x u v a c = 1 ∨ hearN x u v a c = 2 ∨ hearN x u v a c = 3 := by
 unfold hearN
 split
 ·
  exact .inl rfl
 ·
  split
  ·
   split
   ·
    exact .inr (.inr (.inl rfl))
   ·
    exact .inr (.inr (.inr rfl))
  ·
   exact .inr (.inl rfl)
theorem takeM_some {t : TS} {i : Nat} {x : Po} {u : Vc} (q : Pd) (v : Vc) (h : t.s.po[i]? = some (poU x u)) : takeM t i q v =
 if hearN x u v (IntKind.i64.wrap q.p12) t.s.cf = 1 then (if (hearP x u v (IntKind.i64.wrap q.p12) t.s.cf).p10 = 4 then tellM (t.setPo (t.s.po.set i (hearP x u v (IntKind.i64.wrap q.p12) t.s.cf))) i else t.setPo (t.s.po.set i (hearP x u v (IntKind.i64.wrap q.p12) t.s.cf)))
 else if hearN x u v (IntKind.i64.wrap q.p12) t.s.cf = 2 ∨ hearN x u v (IntKind.i64.wrap q.p12) t.s.cf = 3 then (if q.p2 = true then answerM (chooseM (t.setPo (t.s.po.set i (hearP x u v (IntKind.i64.wrap q.p12) t.s.cf)))) i else chooseM (t.setPo (t.s.po.set i (hearP x u v (IntKind.i64.wrap q.p12) t.s.cf))))
 else t.setPo (t.s.po.set i (hearP x u v (IntKind.i64.wrap q.p12) t.s.cf)) := by
 unfold takeM
 rw [h]
 rfl
end
section
open Go.RowKit
attribute [local irreducible] wpQuiet wpList
theorem hearM_some {t : TS} {i : Nat} {x : Po} {u : Vc} (q : Pd) (v : Vc) (h : t.s.po[i]? = some (poU x u)) : hearM t i q v =
 if q.p0 = 128 then (if q.p0 = 128 ∨ q.p1 = true then spreadM (t.setPo (t.s.po.set i (poU (plainP x) u))) i else t.setPo (t.s.po.set i (poU (plainP x) u)))
 else if q.p0 = 128 ∨ q.p1 = true then (if q.p0 = 2 ∧ (q.p7 = 2 ∨ q.p7 = 1) then agreeM (spreadM (t.setPo (t.s.po.set i (poU (plainP x) u))) i) i q v else takeM (spreadM (t.setPo (t.s.po.set i (poU (plainP x) u))) i) i q v)
 else (if q.p0 = 2 ∧ (q.p7 = 2 ∨ q.p7 = 1) then agreeM (t.setPo (t.s.po.set i (poU (plainP x) u))) i q v else takeM (t.setPo (t.s.po.set i (poU (plainP x) u))) i q v) := by
 have e : hearM t i q v = (let t1 := t.setPo (t.s.po.set i (poU (plainP x) u)); let t2 := if q.p0 = 128 ∨ q.p1 = true then spreadM t1 i else t1; if q.p0 = 128 then t2 else if q.p0 = 2 ∧ (q.p7 = 2 ∨ q.p7 = 1) then agreeM t2 i q v else takeM t2 i q v) := by
  unfold hearM
  rw [h]
  rfl
 rw [e]
 by_cases c : q.p0 = 128 ∨ q.p1 = true
 ·
  simp only [if_pos c]
 ·
  simp only [if_neg c]
theorem set_cases {l : List Po} {i k : Nat} {z y : Po} (h : (l.set i z)[k]? = some y) : (k = i ∧ y = z) ∨ l[k]? = some y := by
 by_cases e : i = k
 ·
  subst e
  have hl : i < (l.set i z).length := (List.getElem?_eq_some_iff.1 h).1
  rw [List.length_set] at hl
  rw [List.getElem?_set_self hl] at h
  injection h with h
  exact .inl ⟨rfl, h.symm⟩
 ·
  rw [List.getElem?_set_ne e] at h
  exact .inr h
theorem okP_plain {x : Po} {u : Vc} (h : okP (poU x u)) : okP (poU (plainP x) u) := ⟨h.r, h.c, h.b, h.p, h.k⟩
theorem okP_ch {x : Po} {k : Int} (h : okP x) : okP (chP x k) := ⟨h.r, h.c, h.b, h.p, h.k⟩
theorem okP_hear {x : Po} {u v : Vc} {a : Int} {c : Cf} (h : okP (poU x u)) (hv : v.ok) : okP (hearP x u v a c) := by
 obtain ⟨v1, v2, v3, v4⟩ := hv
 unfold hearP
 split
 ·
  exact h
 ·
  split
  ·
   refine ⟨?_, ?_, ?_, ?_, h.k⟩
   ·
    show 0 ≤ (v.r : Int) ∧ (v.r : Int) < _; omega
   ·
    show 0 ≤ (v.c : Int) ∧ (v.c : Int) < _; omega
   ·
    show 0 ≤ (v.b : Int) ∧ (v.b : Int) < _; omega
   ·
    show 0 ≤ (v.p : Int) ∧ (v.p : Int) < _; omega
  ·
   exact h
theorem sprTo_same (h : Int) (i : Nat) (t : TS) : ∀ k, sameBut t.s.po (sprTo h i t k).s.po
 | 0 => sameBut.refl _
 | k + 1 => by
  refine (sprTo_same h i t k).trans ?_
  show sameBut _ (sprStep h i (sprTo h i t k) k).s.po
  generalize sprTo h i t k = t2
  unfold sprStep
  cases c : t2.s.po[k]? with
  | none => exact sameBut.refl _
  | some x =>
   show sameBut t2.s.po (if k = i ∨ innerB x = false ∨ linkB x = false then t2 else (t2.setPo (t2.s.po.set k (chP x h))).flush ((k : Int) + 1)).s.po
   split
   ·
    exact sameBut.refl _
   ·
    exact sameBut.set c h
theorem spread_same (t : TS) (i : Nat) : sameBut t.s.po (spreadM t i).s.po := sprTo_same _ _ _ _
theorem spread_is (t : TS) (i : Nat) : (spreadM t i).s.po.length = t.s.po.length ∧ (spreadM t i).s.cf = t.s.cf ∧ (spreadM t i).fl.length ≤ t.fl.length + t.s.po.length ∧ (spreadM t i).told = t.told := sprTo_is _ _ _ _
theorem spread_at {t : TS} {i j : Nat} {x : Po} {u : Vc} (h : t.s.po[j]? = some (poU x u)) : ∃ y, (spreadM t i).s.po[j]? = some (poU y u) := by
 obtain ⟨y, hy, k, rfl⟩ := (spread_same t i).2 j _ h
 exact ⟨chP x k, hy⟩
theorem same_ok {l l' : List Po} (h : sameBut l l') (hok : ∀ (k : Nat) (y : Po), l[k]? = some y → okP y) (k : Nat) (y : Po) (hy : l'[k]? = some y) : okP y := by
 have hl : k < l.length := by rw [h.1]; exact (List.getElem?_eq_some_iff.1 hy).1
 obtain ⟨z, hz, j, e⟩ := h.2 k _ (List.getElem?_eq_getElem hl)
 rw [hy] at hz
 injection hz with hz
 rw [hz, e]
 exact okP_ch (hok k _ (List.getElem?_eq_getElem hl))
theorem spread_ok {t : TS} {i : Nat} (hok : ∀ (k : Nat) (y : Po), t.s.po[k]? = some y → okP y) (k : Nat) (y : Po) (hy : (spreadM t i).s.po[k]? = some y) : okP y := same_ok (spread_same t i) hok k y hy
end
section
open Go.RowKit
attribute [local irreducible] wpQuiet wpList
set_option maxRecDepth 100000 in
set_option maxHeartbeats 8000000 in
theorem takeM_any (CH : ChooseOk) {T b n m : Nat} {a : Option Addr} {v2 v3 v4 tv fv : Value} {t : TS} {w : World} {ip : Nat} {x : Po} {u : Vc} (q : Pd) (v : Vc) (h : Tact w ⟨T, b, a, n, m, v2, v3, v4⟩ tv fv t) (hx : t.s.po[ip]? = some (poU x u)) (hok : ∀ (k : Nat) (y : Po), (t.s.po.set ip (hearP x u v (IntKind.i64.wrap q.p12) t.s.cf))[k]? = some y → okP y) (hid : 0 ≤ t.s.cf.p0 ∧ t.s.cf.p0 < 18446744073709551616) (hfl : t.fl.length + (n + 1) * n ≤ 1000) (htl : t.told.length + n ≤ 1000) : Calls Tryd.prog 65 #[.pointer (some ⟨b, 0, none⟩), .int .i64 (ip : Nat), pdV (pdU q v)] w fun e w' => e = .returned (.tuple #[]) ∧ Done w ⟨T, b, a, n, m, v2, v3, v4⟩ tv fv (takeM t ip q v) w' := by
 have HCH := Lib.hid CH
 have HOK := Lib.hid hok
 have HID := Lib.hid hid
 have HFL := Lib.hid hfl
 have HTL := Lib.hid htl
 clear hok hid hfl htl CH
 rw [show pdV (pdU q v) = .agg (pdA { q with p8 := (v.r : Nat), p9 := (v.c : Nat), p10 := (v.b : Nat), p11 := (v.p : Nat) }) from rfl]
 obtain ⟨tF, htF⟩ : ∃ z, z = takeM t ip q v := ⟨_, rfl⟩
 rw [← htF]
 have HTF := Lib.hid (htF.trans (takeM_some q v hx))
 clear htF
 have LEN := Lib.hid h.len
 obtain ⟨g, rfl⟩ : ∃ g, a = some ⟨g, 0, none⟩ := h.ptr hx
 have HX := Lib.hid hx
 have HLT := Lib.hid (show ip < n by have q := (List.getElem?_eq_some_iff.1 hx).1; have q2 := h.len.1; exact Nat.lt_of_lt_of_eq q q2.symm)
 clear hx
 obtain ⟨F, hF⟩ : ∃ F, F = foot ⟨T, b, some ⟨g, 0, none⟩, n, m, v2, v3, v4⟩ tv fv := ⟨_, rfl⟩
 have HF := Lib.hid hF
 have K := Lib.hid (show Ta ⟨w, ⟨T, b, some ⟨g, 0, none⟩, n, m, v2, v3, v4⟩, F⟩ [] t w from hF ▸ h.start)
 clear hF h
 go_enter Tryd.func65, Tryd.ntmps65
 go_upto_region 0 with fail
 have HLP := Lib.hid (show ip < t.s.po.length from (List.getElem?_eq_some_iff.1 HX.out).1)
 refine wp_region_lit ?_
 refine ta_box K.out 61 (.tmp 2) (pdA { q with p8 := (v.r : Nat), p9 := (v.c : Nat), p10 := (v.b : Nat), p11 := (v.p : Nat) }) rfl rfl (by rfl) (pz (h := ?_))
 intro b1 w1 K1
 refine wpList_nil ?_
 go_upto_region 1 with fail
 obtain ⟨z, hz⟩ : ∃ z, z = hearP x u v (IntKind.i64.wrap q.p12) t.s.cf := ⟨_, rfl⟩
 obtain ⟨hn, hhn⟩ : ∃ z, z = hearN x u v (IntKind.i64.wrap q.p12) t.s.cf := ⟨_, rfl⟩
 have hn4 := hearN_is x u v (IntKind.i64.wrap q.p12) t.s.cf
 rw [← hhn] at hn4
 have HZ := Lib.hid hz
 clear hz
 have HHN := Lib.hid hhn
 clear hhn
 rw [← HZ.out, ← HHN.out] at HTF
 rw [← HZ.out] at HOK
 refine rk (fun s => [pT b 0, pT b 0, pT b 0, pT b 6, .slice (some ⟨g, 0, none⟩) n m, iV (ip : Nat), pT g (ip * 21), .agg (poA { x with p13 := (u.r : Nat), p14 := (u.c : Nat), p15 := (u.b : Nat), p16 := (u.p : Nat) }), .agg (pdA { q with p8 := (v.r : Nat), p9 := (v.c : Nat), p10 := (v.b : Nat), p11 := (v.p : Nat) }), .agg (vcA v), pT b1 12, .int .u16 q.p12, iV (IntKind.i64.wrap q.p12), pT b 0, pT b 0, pT b 0, pT b 0, .agg (cfA t.s.cf), .tuple #[.agg (poA z), iV hn], .tuple #[.agg (poA z), iV hn], .agg (poA z), iV hn, s, undef, iV hn]) (fun s Lx w' => W2 w1 73 62 21 21 (poA z) (#[]) (Lx 22) false (Lx 23) false s undef w') (undef) [] [(4, fun s => ⟨b, 6, none⟩), (11, fun s => ⟨b1, 12, none⟩)] [(6, fun s => [(13, .slice (some ⟨g, 0, none⟩) n m), (14, iV (ip : Nat))]), (7, fun s => [(15, pT g (ip * 21))]), (8, fun s => [(5, pT b1 0)]), (9, fun s => [(17, .agg (pdA { q with p8 := (v.r : Nat), p9 := (v.c : Nat), p10 := (v.b : Nat), p11 := (v.p : Nat) }))]), (12, fun s => [(20, .int .u16 q.p12)]), (17, fun s => [(25, pT b 0)]), (18, fun s => [(16, .agg (poA { x with p13 := (u.r : Nat), p14 := (u.c : Nat), p15 := (u.b : Nat), p16 := (u.p : Nat) })), (18, .agg (vcA v)), (21, iV (IntKind.i64.wrap q.p12)), (26, .agg (cfA t.s.cf))]), (22, fun s => []), (23, fun s => [(6, s), (28, .agg (poA z))])] [22, 23] (W2.start _) (fun s Lx w' hw => ⟨fun _ => (K1.out.next hw.from1).acell 6 rfl, fun _ => Ta.cell (i := 0) (K1.out.next hw.from1) rfl (by rfl), trivial⟩) (fun _ L1 L2 _ e h => by (try dsimp only at h ⊢); rw [← e 22 (by decide), ← e 23 (by decide)]; exact h) ?_ ?_
 ·
  refine ⟨?_, ?_, ?_, ?_, ?_, ?_, ?_, ?_, ?_, trivial⟩ <;> (rintro v6 Lx w' hw hL haft hdc ρ hc hf hG hs o ho; cases ho; try dsimp only [pT, iV, seen] at hw hs)
  ·
   exact sq (pT g (ip * 21)) (by have q1 : ip < n := HLT.out; have q2 : n ≤ m := LEN.out.2.1; go_simp)
  ·
   obtain ⟨e15, _⟩ := hs
   exact sq (.agg (poA { x with p13 := (u.r : Nat), p14 := (u.c : Nat), p15 := (u.b : Nat), p16 := (u.p : Nat) })) (l_range 73 _ rfl g (ip * 21) e15 (poA { x with p13 := (u.r : Nat), p14 := (u.c : Nat), p15 := (u.b : Nat), p16 := (u.p : Nat) }) _ ((K1.out.next hw.from1).prange rfl HX.out) Tryd.underlying73 rfl (po_info _))
  ·
   obtain ⟨e5, _⟩ := hs
   exact sq (.agg (pdA { q with p8 := (v.r : Nat), p9 := (v.c : Nat), p10 := (v.b : Nat), p11 := (v.p : Nat) })) (l_var 61 _ rfl _ e5 _ _ _ (Ta.at (i := 0) (K1.out.next hw.from1) rfl) Tryd.underlying61 rfl (size_pd))
  ·
   exact sc (.agg (vcA v)) 78 #[.agg (pdA { q with p8 := (v.r : Nat), p9 := (v.c : Nat), p10 := (v.b : Nat), p11 := (v.p : Nat) })] (told_pd q v w') (by go_simp) (fun w2 hb => ⟨_, fun _ _ => rfl, rfl, hw.next hb⟩)
  ·
   exact sq (iV (IntKind.i64.wrap q.p12))
  ·
   obtain ⟨e25, _⟩ := hs
   exact sq (.agg (cfA t.s.cf)) (by obtain ⟨cs, ty, q1, q2⟩ := (K1.out.next hw.from1).conf; exact l_partof 31 _ rfl b 0 e25 ty cs (cfA t.s.cf).toList _ q1 q2 Tryd.underlying31 rfl (cf_info _))
  ·
   exact sc (.tuple #[.agg (poA z), iV hn]) 47 #[.agg (poA { x with p13 := (u.r : Nat), p14 := (u.c : Nat), p15 := (u.b : Nat), p16 := (u.p : Nat) }), .agg (vcA v), iV (IntKind.i64.wrap q.p12), .agg (cfA t.s.cf)] (by have q := hear_any x u v (IntKind.i64.wrap q.p12) t.s.cf w'; rw [← HZ.out, ← HHN.out] at q; exact q) (by go_simp) (fun w2 hb => ⟨_, fun _ _ => rfl, rfl, hw.next hb⟩)
  ·
   skip
   have hz := z50 w'
   exact sw (w' := (w'.alloc (.cells (nil21) 73))) (pT (w'.heap.size) 0) (by go_simp) ⟨(pT (w'.heap.size) 0), vs_other (i := 22) rfl hL, rfl, hw.alloc7 rfl hL⟩
  ·
   obtain ⟨e6, e28, _⟩ := hs
   obtain ⟨c, cs, rfl, hB, hz, hk, -⟩ := hw.p7 (haft 22 (by decide))
   exact sr 73 _ _ rfl c (poA z) e6 e28 73 cs hk (size50) (hz.trans rfl) (po_all _) ⟨_, fun _ _ => rfl, rfl, hw.store7 (haft 22 (by decide)) rfl hk hB⟩
 intro v6 Lx w2 hw hall
 try dsimp only at hw
 obtain ⟨b2x, cs0, hv0, hB0, -, hk0, hx0⟩ := hw.p7 (hall 22 (by decide))
 have hx0 := hx0 (hall 23 (by decide))
 subst hx0
 subst hv0
 simp only [pT, iV, List.toList_toArray, putsZ_some, putsZ_none, putsZ_nil, List.setIfInBounds_toArray, List.set_cons_zero, List.set_cons_succ]
 have K2 := Lib.hid (show Ta ⟨w, ⟨T, b, some ⟨g, 0, none⟩, n, m, v2, v3, v4⟩, F⟩ [(b1, pdA { q with p8 := (v.r : Nat), p9 := (v.c : Nat), p10 := (v.b : Nat), p11 := (v.p : Nat) }, 61), (b2x, poA z, 73)] (t) w2 from (ta_add2 K1.out hw.from1 hk0 hB0))
 clear hw hall
 go_upto_region 2 with fail
 refine rk (fun (_ : Unit) => [pT b 0, pT b 0, pT b 0, pT b 6, .slice (some ⟨g, 0, none⟩) n m, iV (ip : Nat), .agg (poA z), pT g (ip * 21), undef]) (fun _ Lx w' => Ta ⟨w, ⟨T, b, some ⟨g, 0, none⟩, n, m, v2, v3, v4⟩, F⟩ [(b1, pdA { q with p8 := (v.r : Nat), p9 := (v.c : Nat), p10 := (v.b : Nat), p11 := (v.p : Nat) }, 61), (b2x, poA z, 73)] (bif Lx 8 then t.setPo (t.s.po.set ip z) else t) w') (()) [] [] [(4, fun _ => [(33, pT b 6)]), (6, fun _ => [(6, pT b2x 0)]), (7, fun _ => [(34, .slice (some ⟨g, 0, none⟩) n m), (35, iV (ip : Nat))]), (8, fun _ => [(36, .agg (poA z)), (37, pT g (ip * 21))])] [8] (K2.out.drew) (fun _ _ _ _ => trivial) (fun _ L1 L2 _ e h => by (try dsimp only at h ⊢); rw [← e 8 (by decide)]; exact h) ?_ ?_
 ·
  refine ⟨?_, ?_, ?_, ?_, trivial⟩ <;> (rintro _ Lx w' hw hL haft hdc ρ hc hf hG hs o ho; cases ho; try dsimp only [pT, iV, seen] at hw hs)
  ·
   have hn8 : Lx 8 = false := nup (fun cq => hdc 7 (hdc 8 cq 7 (by decide)) 4 (by decide)) hL
   have hwo : Ta ⟨w, ⟨T, b, some ⟨g, 0, none⟩, n, m, v2, v3, v4⟩, F⟩ [(b1, pdA { q with p8 := (v.r : Nat), p9 := (v.c : Nat), p10 := (v.b : Nat), p11 := (v.p : Nat) }, 61), (b2x, poA z, 73)] (t) w' := by rw [hn8] at hw; exact hw
   exact sq (.slice (some ⟨g, 0, none⟩) n m) (by have q : w'.cell? ⟨b, 6, none⟩ = some (.slice (some ⟨g, 0, none⟩) n m) := hwo.acell 6 rfl; go_simp)
  ·
   obtain ⟨e6, _⟩ := hs
   have hn8 : Lx 8 = false := nup (fun cq => hdc 8 cq 6 (by decide)) hL
   have hwo : Ta ⟨w, ⟨T, b, some ⟨g, 0, none⟩, n, m, v2, v3, v4⟩, F⟩ [(b1, pdA { q with p8 := (v.r : Nat), p9 := (v.c : Nat), p10 := (v.b : Nat), p11 := (v.p : Nat) }, 61), (b2x, poA z, 73)] (t) w' := by rw [hn8] at hw; exact hw
   exact sq (.agg (poA z)) (l_var 73 _ rfl _ e6 _ _ _ (Ta.at (i := 1) hwo rfl) Tryd.underlying73 rfl (size50))
  ·
   exact sq (pT g (ip * 21)) (by have q1 : ip < n := HLT.out; have q2 : n ≤ m := LEN.out.2.1; go_simp)
  ·
   obtain ⟨e36, e37, _⟩ := hs
   have hw0 : Ta ⟨w, ⟨T, b, some ⟨g, 0, none⟩, n, m, v2, v3, v4⟩, F⟩ [(b1, pdA { q with p8 := (v.r : Nat), p9 := (v.c : Nat), p10 := (v.b : Nat), p11 := (v.p : Nat) }, 61), (b2x, poA z, 73)] (t) w' := by rw [hL] at hw; exact hw
   exact sm 73 _ _ rfl g (ip * 21) (poA z) e37 e36 (hw0.pthere rfl HLP.out) (po_info _) (po_all _) ⟨(), fun _ _ => rfl, rfl, hw0.pput rfl HLP.out⟩
 intro _ Lx w3 hw hall
 try dsimp only at hw
 simp only [pT, iV, List.toList_toArray, putsZ_some, putsZ_none, putsZ_nil, List.setIfInBounds_toArray, List.set_cons_zero, List.set_cons_succ]
 rw [hall 8 (by decide)] at hw
 simp only [cond_true] at hw
 have K3 := Lib.hid hw
 clear hw hall
 obtain ⟨t3, ht3⟩ : ∃ q, q = t.setPo (t.s.po.set ip z) := ⟨_, rfl⟩
 have KY := Lib.hid (show Ta ⟨w, ⟨T, b, some ⟨g, 0, none⟩, n, m, v2, v3, v4⟩, F⟩ [(b1, pdA { q with p8 := (v.r : Nat), p9 := (v.c : Nat), p10 := (v.b : Nat), p11 := (v.p : Nat) }, 61), (b2x, poA z, 73)] t3 w3 from ht3 ▸ K3.out)
 have HT3 := Lib.hid ht3
 rw [← ht3] at HTF
 clear ht3
 have HX3 := Lib.hid (show t3.s.po[ip]? = some z by rw [HT3.out]; exact List.getElem?_set_self HLP.out)
 have HN3 := Lib.hid (show t3.s.po.length = n ∧ t3.s.cf = t.s.cf ∧ t3.fl = t.fl ∧ t3.told = t.told by rw [HT3.out]; exact ⟨(List.length_set).trans LEN.out.1.symm, rfl, rfl, rfl⟩)
 rcases hn4 with rfl | rfl | rfl | rfl
 next =>
  go_upto_region 3 with fail
  refine lz (wz1 (iV 0) (h := nz ?_))
  go_upto_region 4 with fail
  refine lz (wz2 (.bool false) (.bool false) (h := nz ?_))
  go_upto_region 7 with fail
  refine lz (wz2 (.bool false) (.bool false) (h := nz ?_))
  go_upto_region 8 with fail
  refine lz (wz2 (.bool false) (.bool false) (h := nz ?_))
  have KZ := Lib.hid (show Ta ⟨w, ⟨T, b, some ⟨g, 0, none⟩, n, m, v2, v3, v4⟩, F⟩ [(b1, pdA { q with p8 := (v.r : Nat), p9 := (v.c : Nat), p10 := (v.b : Nat), p11 := (v.p : Nat) }, 61), (b2x, poA z, 73)] tF w3 from by rw [show tF = t3 from by rw [HTF.out]; rw [if_neg (by decide), if_neg (by decide)]]; exact KY.out)
  go_wp2_with fail
  go_end0
  exact ⟨rfl, by have q := KZ.out; rw [HF.out] at q; exact q.done⟩
 next =>
  go_upto_region 3 with fail
  refine lz (wz1 (iV 1) (h := nz ?_))
  go_upto_region 4 with fail
  refine lz (wz2 (.bool true) (.bool true) (h := nz ?_))
  by_cases h4 : z.p10 = 4
  case pos =>
   have H4 := Lib.hid h4
   clear h4
   go_upto_region 5 with fail
   refine lz (wz3 (pT b2x 10) (iV z.p10) (.bool true) (h2 := by have q : w3.cell? ⟨b2x, 10, none⟩ = some (iV z.p10) := KY.out.cell (i := 1) rfl (by rfl); go_simp) (h3 := by have q := H4.out; go_simp) (h := nz ?_))
   go_upto_region 6 with fail
   refine lz (wz2 (pT b 0) (iV (ip : Nat)) (h := ?_))
   refine ta_act KY.out 60 #[.pointer (some ⟨b, 0, none⟩), .int .i64 (ip : Nat)] (tellM t3 ip) (by rfl) (by go_simp) (fun tv fv h => tell_any h HX3.out (by rw [H4.out]; decide) (by rw [HN3.out.2.2.2]; have := HTL.out; omega)) (py (h := ?_))
   intro w4 K4
   refine wpList_nil ?_
   have KZ := Lib.hid (show Ta ⟨w, ⟨T, b, some ⟨g, 0, none⟩, n, m, v2, v3, v4⟩, F⟩ [(b1, pdA { q with p8 := (v.r : Nat), p9 := (v.c : Nat), p10 := (v.b : Nat), p11 := (v.p : Nat) }, 61), (b2x, poA z, 73)] tF w4 from by rw [show tF = tellM t3 ip from by rw [HTF.out]; rw [if_pos rfl, if_pos H4.out]]; exact K4.out)
   go_wp2_with fail
   go_end0
   exact ⟨rfl, by have q := KZ.out; rw [HF.out] at q; exact q.done⟩
  case neg =>
   have H4 := Lib.hid h4
   clear h4
   go_upto_region 5 with fail
   refine lz (wz3 (pT b2x 10) (iV z.p10) (.bool false) (h2 := by have q : w3.cell? ⟨b2x, 10, none⟩ = some (iV z.p10) := KY.out.cell (i := 1) rfl (by rfl); go_simp) (h3 := by have q := H4.out; go_simp) (h := nz ?_))
   have KZ := Lib.hid (show Ta ⟨w, ⟨T, b, some ⟨g, 0, none⟩, n, m, v2, v3, v4⟩, F⟩ [(b1, pdA { q with p8 := (v.r : Nat), p9 := (v.c : Nat), p10 := (v.b : Nat), p11 := (v.p : Nat) }, 61), (b2x, poA z, 73)] tF w3 from by rw [show tF = t3 from by rw [HTF.out]; rw [if_pos rfl, if_neg H4.out]]; exact KY.out)
   go_wp2_with fail
   go_end0
   exact ⟨rfl, by have q := KZ.out; rw [HF.out] at q; exact q.done⟩
 next =>
  go_upto_region 3 with fail
  refine lz (wz1 (iV 2) (h := nz ?_))
  go_upto_region 4 with fail
  refine lz (wz2 (.bool false) (.bool false) (h := nz ?_))
  go_upto_region 7 with fail
  refine lz (wz2 (.bool true) (.bool true) (h := nz ?_))
  go_upto_region 9 with fail
  refine lz (wz1 (pT b 0) (h := ?_))
  refine ta_act KY.out 31 #[.pointer (some ⟨b, 0, none⟩)] (chooseM t3) (by rfl) (by go_simp) (fun tv fv h => HCH.out.ok h (by rw [HT3.out]; exact HOK.out) (by rw [HN3.out.2.1]; exact HID.out) (by rw [HN3.out.2.2.1]; exact HFL.out) (by rw [HN3.out.2.2.2]; exact HTL.out)) (py (h := ?_))
  intro w4 K4
  refine wpList_nil ?_
  have HX5 : ∃ y, (chooseM t3).s.po[ip]? = some y := ⟨_, List.getElem?_eq_getElem (by rw [(chooseM_is t3).1]; exact (List.getElem?_eq_some_iff.1 HX3.out).1)⟩
  obtain ⟨y5, hx5⟩ := HX5
  have HX5 := Lib.hid hx5
  clear hx5
  rcases (show q.p2 = true ∨ q.p2 = false by cases q.p2 <;> simp) with h2 | h2
  case inl =>
   have H2 := Lib.hid h2
   clear h2
   go_upto_region 10 with fail
   refine lz (wz2 (pT b1 2) (.bool true) (h2 := by have q0 : w4.cell? ⟨b1, 2, none⟩ = some (.bool q.p2) := K4.out.cell (i := 0) rfl (by rfl); rw [H2.out] at q0; go_simp) (h := nz ?_))
   go_upto_region 11 with fail
   refine lz (wz2 (pT b 0) (iV (ip : Nat)) (h := ?_))
   refine ta_act K4.out 79 #[.pointer (some ⟨b, 0, none⟩), .int .i64 (ip : Nat)] (answerM (chooseM t3) ip) (by rfl) (by go_simp) (fun tv fv h => answer_any h HX5.out (by have q1 := (chooseM_is t3).2.2.2; rw [HN3.out.2.2.2, HN3.out.1] at q1; have q2 := HTL.out; omega)) (py (h := ?_))
   intro w5 K5
   refine wpList_nil ?_
   have KZ := Lib.hid (show Ta ⟨w, ⟨T, b, some ⟨g, 0, none⟩, n, m, v2, v3, v4⟩, F⟩ [(b1, pdA { q with p8 := (v.r : Nat), p9 := (v.c : Nat), p10 := (v.b : Nat), p11 := (v.p : Nat) }, 61), (b2x, poA z, 73)] tF w5 from by rw [show tF = answerM (chooseM t3) ip from by rw [HTF.out]; rw [if_neg (by decide), if_pos (by decide), if_pos H2.out]]; exact K5.out)
   go_wp2_with fail
   go_end0
   exact ⟨rfl, by have q := KZ.out; rw [HF.out] at q; exact q.done⟩
  case inr =>
   have H2 := Lib.hid h2
   clear h2
   go_upto_region 10 with fail
   refine lz (wz2 (pT b1 2) (.bool false) (h2 := by have q0 : w4.cell? ⟨b1, 2, none⟩ = some (.bool q.p2) := K4.out.cell (i := 0) rfl (by rfl); rw [H2.out] at q0; go_simp) (h := nz ?_))
   have KZ := Lib.hid (show Ta ⟨w, ⟨T, b, some ⟨g, 0, none⟩, n, m, v2, v3, v4⟩, F⟩ [(b1, pdA { q with p8 := (v.r : Nat), p9 := (v.c : Nat), p10 := (v.b : Nat), p11 := (v.p : Nat) }, 61), (b2x, poA z, 73)] tF w4 from by rw [show tF = chooseM t3 from by rw [HTF.out]; rw [if_neg (by decide), if_pos (by decide), if_neg (by rw [H2.out]; decide)]]; exact K4.out)
   go_wp2_with fail
   go_end0
   exact ⟨rfl, by have q := KZ.out; rw [HF.out] at q; exact q.done⟩
 next =>
  go_upto_region 3 with fail
  refine lz (wz1 (iV 3) (h := nz ?_))
  go_upto_region 4 with fail
  refine lz (wz2 (.bool false) (.bool false) (h := nz ?_))
  go_upto_region 7 with fail
  refine lz (wz2 (.bool false) (.bool false) (h := nz ?_))
  go_upto_region 8 with fail
  refine lz (wz2 (.bool true) (.bool true) (h := nz ?_))
  go_upto_region 9 with fail
  refine lz (wz1 (pT b 0) (h := ?_))
  refine ta_act KY.out 31 #[.pointer (some ⟨b, 0, none⟩)] (chooseM t3) (by rfl) (by go_simp) (fun tv fv h => HCH.out.ok h (by rw [HT3.out]; exact HOK.out) (by rw [HN3.out.2.1]; exact HID.out) (by rw [HN3.out.2.2.1]; exact HFL.out) (by rw [HN3.out.2.2.2]; exact HTL.out)) (py (h := ?_))
  intro w4 K4
  refine wpList_nil ?_
  have HX5 : ∃ y, (chooseM t3).s.po[ip]? = some y := ⟨_, List.getElem?_eq_getElem (by rw [(chooseM_is t3).1]; exact (List.getElem?_eq_some_iff.1 HX3.out).1)⟩
  obtain ⟨y5, hx5⟩ := HX5
  have HX5 := Lib.hid hx5
  clear hx5
  rcases (show q.p2 = true ∨ q.p2 = false by cases q.p2 <;> simp) with h2 | h2
  case inl =>
   have H2 := Lib.hid h2
   clear h2
   go_upto_region 10 with fail
   refine lz (wz2 (pT b1 2) (.bool true) (h2 := by have q0 : w4.cell? ⟨b1, 2, none⟩ = some (.bool q.p2) := K4.out.cell (i := 0) rfl (by rfl); rw [H2.out] at q0; go_simp) (h := nz ?_))
   go_upto_region 11 with fail
   refine lz (wz2 (pT b 0) (iV (ip : Nat)) (h := ?_))
   refine ta_act K4.out 79 #[.pointer (some ⟨b, 0, none⟩), .int .i64 (ip : Nat)] (answerM (chooseM t3) ip) (by rfl) (by go_simp) (fun tv fv h => answer_any h HX5.out (by have q1 := (chooseM_is t3).2.2.2; rw [HN3.out.2.2.2, HN3.out.1] at q1; have q2 := HTL.out; omega)) (py (h := ?_))
   intro w5 K5
   refine wpList_nil ?_
   have KZ := Lib.hid (show Ta ⟨w, ⟨T, b, some ⟨g, 0, none⟩, n, m, v2, v3, v4⟩, F⟩ [(b1, pdA { q with p8 := (v.r : Nat), p9 := (v.c : Nat), p10 := (v.b : Nat), p11 := (v.p : Nat) }, 61), (b2x, poA z, 73)] tF w5 from by rw [show tF = answerM (chooseM t3) ip from by rw [HTF.out]; rw [if_neg (by decide), if_pos (by decide), if_pos H2.out]]; exact K5.out)
   go_wp2_with fail
   go_end0
   exact ⟨rfl, by have q := KZ.out; rw [HF.out] at q; exact q.done⟩
  case inr =>
   have H2 := Lib.hid h2
   clear h2
   go_upto_region 10 with fail
   refine lz (wz2 (pT b1 2) (.bool false) (h2 := by have q0 : w4.cell? ⟨b1, 2, none⟩ = some (.bool q.p2) := K4.out.cell (i := 0) rfl (by rfl); rw [H2.out] at q0; go_simp) (h := nz ?_))
   have KZ := Lib.hid (show Ta ⟨w, ⟨T, b, some ⟨g, 0, none⟩, n, m, v2, v3, v4⟩, F⟩ [(b1, pdA { q with p8 := (v.r : Nat), p9 := (v.c : Nat), p10 := (v.b : Nat), p11 := (v.p : Nat) }, 61), (b2x, poA z, 73)] tF w4 from by rw [show tF = chooseM t3 from by rw [HTF.out]; rw [if_neg (by decide), if_pos (by decide), if_neg (by rw [H2.out]; decide)]]; exact K4.out)
   go_wp2_with fail
   go_end0
   exact ⟨rfl, by have q := KZ.out; rw [HF.out] at q; exact q.done⟩
end
end Go.Proofs.YteeinlbhcdpnnaaDoor
