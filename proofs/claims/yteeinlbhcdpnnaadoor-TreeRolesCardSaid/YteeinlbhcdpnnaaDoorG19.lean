import Derived.Test.YteeinlbhcdpnnaaDoorG4
import Derived.Test.YteeinlbhcdpnnaaDoorG2
import Derived.Test.YteeinlbhcdpnnaaDoorG10
import Derived.Test.YteeinlbhcdpnnaaDoorG11
set_option linter.unusedSimpArgs false
set_option linter.unusedVariables false
namespace Go.Proofs.YteeinlbhcdpnnaaDoor
section
open Go.RowKit
attribute [local irreducible] wpQuiet wpList
set_option maxRecDepth 100000 in
set_option maxHeartbeats 8000000 in
theorem answer_any {T b n m : Nat} {a : Option Addr} {v2 v3 v4 tv fv : Value} {t : TS} {w : World} {ip : Nat} {x : Po} (h : Tact w ⟨T, b, a, n, m, v2, v3, v4⟩ tv fv t) (hx : t.s.po[ip]? = some x) (htl : t.told.length ≤ 1000) : Calls Tryd.prog 79 #[.pointer (some ⟨b, 0, none⟩), .int .i64 (ip : Nat)] w fun e w' => e = .returned (.tuple #[]) ∧ Done w ⟨T, b, a, n, m, v2, v3, v4⟩ tv fv (answerM t ip) w' := by
 have HTL := Lib.hid htl
 clear htl
 obtain ⟨tF, htF⟩ : ∃ z, z = answerM t ip := ⟨_, rfl⟩
 rw [← htF]
 have HTF := Lib.hid htF
 clear htF
 have LEN := Lib.hid h.len
 obtain ⟨g, rfl⟩ : ∃ g, a = some ⟨g, 0, none⟩ := h.ptr hx
 have HX := Lib.hid hx
 have HLT := Lib.hid (show ip < n by have q := (List.getElem?_eq_some_iff.1 hx).1; have q2 := h.len.1; exact Nat.lt_of_lt_of_eq q q2.symm)
 clear hx
 obtain ⟨F, hF⟩ : ∃ F, F = foot ⟨T, b, some ⟨g, 0, none⟩, n, m, v2, v3, v4⟩ tv fv := ⟨_, rfl⟩
 have HF := Lib.hid hF
 have K := Lib.hid (show Ta ⟨w, ⟨T, b, some ⟨g, 0, none⟩, n, m, v2, v3, v4⟩, F⟩ [] t w from hF ▸ h.start)
 clear hF h
 go_enter Tryd.func79, Tryd.ntmps79
 go_upto_region 0 with fail
 refine lz (wz6 (pT b 0) (pT b 0) (pT b 0) (pT b 6) (.slice (some ⟨g, 0, none⟩) n m) (iV (ip : Nat)) (h5 := by have q : w.cell? ⟨b, 6, none⟩ = some (.slice (some ⟨g, 0, none⟩) n m) := K.out.acell 6 rfl; go_simp) (h := wz3 (pT g (ip * 21)) (pT g (ip * 21 + 10)) (iV x.p10) (h1 := by have q1 : ip < n := HLT.out; have q2 : n ≤ m := LEN.out.2.1; go_simp) (h3 := by have q : w.cell? ⟨g, ip * 21 + 10, none⟩ = some (iV x.p10) := K.out.pcell rfl HX.out (j := 10) rfl; go_simp) (h := nz ?_)))
 go_upto_region 1 with fail
 rcases (show x.p10 = 3 ∨ (x.p10 = 1 ∨ (x.p10 = 2 ∨ ¬ (x.p10 = 3 ∨ x.p10 = 1 ∨ x.p10 = 2))) by omega) with h3 | h3 | h3 | h3
 case inl =>
  have H3 := Lib.hid h3
  clear h3
  refine lz (wz2 (.bool true) (.bool true) (h1 := by have q : x.p10 = 3 := (by have := H3.out; omega); go_simp) (h := nz ?_))
  have HRR := Lib.hid (show (x.p10 = 3 ∨ x.p10 = 1 ∨ x.p10 = 2) ∧ (0 ≤ x.p10 ∧ x.p10 ≤ 4) by have := H3.out; omega)
  have HE1 := Lib.hid (show tF = sendM (mapTo (blkF ip t.s.cf.p3) t n) ip agrQ by have q : n = t.s.po.length := LEN.out.1; rw [HTF.out, q]; unfold answerM; rw [HX.out]; show (if _ then _ else _) = _; rw [if_pos HRR.out.1])
  go_upto_region 4 with fail
  refine lz (wz6 (pT b 0) (pT b 0) (pT b 0) (pT b 6) (.slice (some ⟨g, 0, none⟩) n m) (iV (n : Nat)) (h5 := by have q : w.cell? ⟨b, 6, none⟩ = some (.slice (some ⟨g, 0, none⟩) n m) := K.out.acell 6 rfl; go_simp) (h := wz1 (iV 0) (h := nz ?_)))
  go_upto_region 5 with fail
  go_loopw [25] (fun i wr => ∃ k : Nat, k ≤ n ∧ i = .int .i64 k ∧ Ta ⟨w, ⟨T, b, some ⟨g, 0, none⟩, n, m, v2, v3, v4⟩, F⟩ [] (mapTo (blkF ip t.s.cf.p3) t k) wr) (fun i _ => (n - intOf i).toNat)
  case atStart => exact ⟨0, Nat.zero_le _, rfl, K.out⟩
  case round =>
   obtain ⟨k, hk, rfl, hK⟩ := hrel
   obtain ⟨t2, ht2⟩ : ∃ z, z = mapTo (blkF ip t.s.cf.p3) t k := ⟨_, rfl⟩
   rw [← ht2] at hK
   have KR := Lib.hid hK
   have HT2 := Lib.hid ht2
   have HK := Lib.hid hk
   have HC2 := Lib.hid (show t2.s.po.length = t.s.po.length ∧ t2.told = t.told ∧ t2.s.cf = t.s.cf ∧ t2.s.po[ip]? = some x by have q := mapTo_is (blkF ip t.s.cf.p3) t k; have q2 := mapTo_get (blkF ip t.s.cf.p3) t ip k; rw [← ht2] at q q2; refine ⟨q.1, q.2.2.2, q.2.1, ?_⟩; rw [q2, HX.out]; show (if _ then some (if ip = ip then x else _) else _) = _; rw [if_pos rfl]; split <;> rfl)
   clear hK ht2 hk
   have i1 : (n : Int) ≤ 100 := by have q : n ≤ 100 := KR.out.few; omega
   by_cases hlt : k < n
   case neg =>
    have HLT1 := Lib.hid hlt
    clear hlt
    go_upto_region 5 with fail
    refine lz (wz1 (.bool false) (h1 := by have q := HLT1.out; go_simp) (h := nz ?_))
    have hkn : n = k := by have q1 := HK.out; have q2 := HLT1.out; omega
    have HEF := Lib.hid (show tF = sendM t2 ip agrQ by rw [HE1.out, hkn, ← HT2.out])
    clear hkn
    go_upto_region 10 with fail
    refine lz (wz3 (pT b 0) (iV (ip : Nat)) (.agg (pdA ⟨0, false, false, false, false, true, false, 0, 0, 0, 0, 0, 0, 0, 0, 0⟩)) (h3 := by exact run_build_of 61 [(5, .const (.bool true))] rfl _ (pdA ⟨0, false, false, false, false, true, false, 0, 0, 0, 0, 0, 0, 0, 0, 0⟩) rfl (by kernel_rfl)) (h := ?_))
    refine ta_act KR.out 61 #[.pointer (some ⟨b, 0, none⟩), .int .i64 (ip : Nat), .agg (pdA ⟨0, false, false, false, false, true, false, 0, 0, 0, 0, 0, 0, 0, 0, 0⟩)] (sendM t2 ip agrQ) (by rfl) (by go_simp) (fun tv fv h => send_any agrQ h HC2.out.2.2.2 HRR.out.2 (by rw [HC2.out.2.1]; exact HTL.out)) (py (h := ?_))
    intro w2 K2
    refine wpList_nil ?_
    have KZ := Lib.hid (show Ta ⟨w, ⟨T, b, some ⟨g, 0, none⟩, n, m, v2, v3, v4⟩, F⟩ [] tF w2 from by rw [HEF.out]; exact K2.out)
    go_wp2_with fail
    go_end0
    exact ⟨rfl, by have q := KZ.out; rw [HF.out] at q; exact q.done⟩
   case pos =>
    have HLK := Lib.hid hlt
    obtain ⟨y, hy⟩ : ∃ y, t2.s.po[k]? = some y := ⟨_, List.getElem?_eq_getElem (show k < t2.s.po.length by have q1 : n = t2.s.po.length := KR.out.len.1; omega)⟩
    have HY := Lib.hid hy
    clear hy
    clear hlt
    have HLP := Lib.hid (show k < t2.s.po.length from (List.getElem?_eq_some_iff.1 HY.out).1)
    go_upto_region 5 with fail
    refine lz (wz1 (.bool true) (h1 := by have q := HLK.out; go_simp) (h := nz ?_))
    go_upto_region 6 with fail
    refine lz (wz3 (iV (k : Nat)) (pT g (k * 21)) (.agg (poA y)) (h2 := by have q1 : k < n := HLK.out; have q2 : n ≤ m := LEN.out.2.1; go_simp) (h3 := by exact run_loadRange 73 _ rfl g (k * 21) rfl (poA y) _ (KR.out.prange rfl HY.out) Tryd.underlying73 rfl (po_info _)) (h := ?_))
    refine ta_alloc KR.out 73 (nil21) rfl z50 (by rfl) (pz (h := ?_))
    intro b2 w2 K2
    refine wz1 (iV (k : Nat)) (h := ?_)
    refine ta_row K2.out 0 rfl 73 _ _ (poA y) rfl rfl rfl rfl (size50) (by rfl) (po_all _) (py (h := ?_))
    intro w3 K3
    refine wpList_nil ?_
    go_upto_region 7 with fail
    by_cases hki : (k : Int) = (ip : Int)
    case pos =>
     have hkn : k = ip := by omega
     have HKI := Lib.hid hki
     clear hki
     have HKN := Lib.hid hkn
     clear hkn
     refine lz (wz3 (iV (k : Nat)) (iV (ip : Nat)) (.bool false) (h3 := by have q := HKI.out; go_simp) (h := nz ?_))
     have K3y := Lib.hid (Ta.left (l := []) K3.out)
     have hlt := HLK.out
     go_wp2_with fail
     go_roundw
     case rel => exact ⟨k + 1, HLK.out, by go_num, by rw [show mapTo (blkF ip t.s.cf.p3) t (k + 1) = t2 from by show mapStep (blkF ip t.s.cf.p3) (mapTo (blkF ip t.s.cf.p3) t k) k = _; rw [← HT2.out, mapStep_some HY.out]; show t2.setPo (t2.s.po.set k (if k = ip then y else _)) = t2; rw [if_pos HKN.out, set_same HY.out]; rfl]; exact K3y.out⟩
     case measure => have := HLK.out; simp [intOf]; omega
    case neg =>
     have hkn : ¬ k = ip := by omega
     have HKI := Lib.hid hki
     clear hki
     have HKN := Lib.hid hkn
     clear hkn
     refine lz (wz3 (iV (k : Nat)) (iV (ip : Nat)) (.bool true) (h3 := by have q := HKI.out; go_simp) (h := nz ?_))
     go_upto_region 8 with fail
     obtain ⟨u, hu⟩ : ∃ u, u = blockP y t2.s.cf.p3 := ⟨_, rfl⟩
     have HU := Lib.hid hu
     clear hu
     refine rk (fun (_ : Unit) => [pT b 0, pT b 0, pT b 0, pT b 6, .slice (some ⟨g, 0, none⟩) n m, iV (k : Nat), .agg (poA y), pT b 0, pT b 0, pT b 0, pT b 0, .agg (cfA t2.s.cf), .agg (poA u), pT g (k * 21), undef]) (fun _ Lx w' => Ta ⟨w, ⟨T, b, some ⟨g, 0, none⟩, n, m, v2, v3, v4⟩, F⟩ [(b2, poA y, 73)] (bif Lx 14 then t2.setPo (t2.s.po.set k u) else t2) w') (()) [] [] [(4, fun _ => [(36, pT b 6)]), (6, fun _ => [(5, pT b2 0)]), (11, fun _ => [(43, pT b 0)]), (12, fun _ => [(39, .agg (poA y)), (44, .agg (cfA t2.s.cf))]), (13, fun _ => [(37, .slice (some ⟨g, 0, none⟩) n m), (38, iV (k : Nat))]), (14, fun _ => [(45, .agg (poA u)), (46, pT g (k * 21))])] [14] (K3.out.drew) (fun _ _ _ _ => trivial) (fun _ L1 L2 _ e h => by (try dsimp only at h ⊢); rw [← e 14 (by decide)]; exact h) ?_ ?_
     ·
      refine ⟨?_, ?_, ?_, ?_, ?_, ?_, trivial⟩ <;> (rintro _ Lx w' hw hL haft hdc ρ hc hf hG hs o ho; cases ho; try dsimp only [pT, iV, seen] at hw hs)
      ·
       have hn14 : Lx 14 = false := nup (fun cq => hdc 13 (hdc 14 cq 13 (by decide)) 4 (by decide)) hL
       have hwo : Ta ⟨w, ⟨T, b, some ⟨g, 0, none⟩, n, m, v2, v3, v4⟩, F⟩ [(b2, poA y, 73)] (t2) w' := by rw [hn14] at hw; exact hw
       exact sq (.slice (some ⟨g, 0, none⟩) n m) (by have q : w'.cell? ⟨b, 6, none⟩ = some (.slice (some ⟨g, 0, none⟩) n m) := hwo.acell 6 rfl; go_simp)
      ·
       obtain ⟨e5, _⟩ := hs
       have hn14 : Lx 14 = false := nup (fun cq => hdc 12 (hdc 14 cq 12 (by decide)) 6 (by decide)) hL
       have hwo : Ta ⟨w, ⟨T, b, some ⟨g, 0, none⟩, n, m, v2, v3, v4⟩, F⟩ [(b2, poA y, 73)] (t2) w' := by rw [hn14] at hw; exact hw
       exact sq (.agg (poA y)) (l_var 73 _ rfl _ e5 _ _ _ (Ta.at (i := 0) hwo rfl) Tryd.underlying73 rfl (size50))
      ·
       obtain ⟨e43, _⟩ := hs
       have hn14 : Lx 14 = false := nup (fun cq => hdc 12 (hdc 14 cq 12 (by decide)) 11 (by decide)) hL
       have hwo : Ta ⟨w, ⟨T, b, some ⟨g, 0, none⟩, n, m, v2, v3, v4⟩, F⟩ [(b2, poA y, 73)] (t2) w' := by rw [hn14] at hw; exact hw
       exact sq (.agg (cfA t2.s.cf)) (by obtain ⟨cs, ty, q1, q2⟩ := hwo.conf; exact l_partof 31 _ rfl b 0 e43 ty cs (cfA t2.s.cf).toList _ q1 q2 Tryd.underlying31 rfl (cf_info _))
      ·
       have hn14 : Lx 14 = false := nup (fun cq => hdc 14 cq 12 (by decide)) hL
       have hwo : Ta ⟨w, ⟨T, b, some ⟨g, 0, none⟩, n, m, v2, v3, v4⟩, F⟩ [(b2, poA y, 73)] (t2) w' := by rw [hn14] at hw; exact hw
       exact sc (.agg (poA u)) 48 #[.agg (poA y), .agg (cfA t2.s.cf)] (by have q := block_any y t2.s.cf w'; rw [← HU.out] at q; exact q) (by go_simp) (fun w2 hb => ⟨(), fun _ _ => rfl, rfl, hw.next hb⟩)
      ·
       exact sq (pT g (k * 21)) (by have q1 : k < n := HLK.out; have q2 : n ≤ m := LEN.out.2.1; go_simp)
      ·
       obtain ⟨e45, e46, _⟩ := hs
       have hw0 : Ta ⟨w, ⟨T, b, some ⟨g, 0, none⟩, n, m, v2, v3, v4⟩, F⟩ [(b2, poA y, 73)] (t2) w' := by rw [hL] at hw; exact hw
       exact sm 73 _ _ rfl g (k * 21) (poA u) e46 e45 (hw0.pthere rfl HLP.out) (po_info _) (po_all _) ⟨(), fun _ _ => rfl, rfl, hw0.pput rfl HLP.out⟩
     intro _ Lx w4 hw hall
     try dsimp only at hw
     simp only [pT, iV, List.toList_toArray, putsZ_some, putsZ_none, putsZ_nil, List.setIfInBounds_toArray, List.set_cons_zero, List.set_cons_succ]
     rw [hall 14 (by decide)] at hw
     simp only [cond_true] at hw
     have K4 := Lib.hid hw
     clear hw hall
     have K4y := Lib.hid (Ta.left (l := []) K4.out)
     have hlt := HLK.out
     go_wp2_with fail
     go_roundw
     case rel => exact ⟨k + 1, HLK.out, by go_num, by rw [show mapTo (blkF ip t.s.cf.p3) t (k + 1) = t2.setPo (t2.s.po.set k u) from by show mapStep (blkF ip t.s.cf.p3) (mapTo (blkF ip t.s.cf.p3) t k) k = _; rw [← HT2.out, mapStep_some HY.out]; show t2.setPo (t2.s.po.set k (if k = ip then y else blockP y t.s.cf.p3)) = _; rw [if_neg HKN.out, ← HC2.out.2.2.1, ← HU.out]]; exact K4y.out⟩
     case measure => have := HLK.out; simp [intOf]; omega
 case inr.inl =>
  have H3 := Lib.hid h3
  clear h3
  refine lz (wz2 (.bool false) (.bool false) (h1 := by have q : ¬ x.p10 = 3 := (by have := H3.out; omega); go_simp) (h := nz ?_))
  go_upto_region 2 with fail
  refine lz (wz2 (.bool true) (.bool true) (h1 := by have q : x.p10 = 1 := (by have := H3.out; omega); go_simp) (h := nz ?_))
  have HRR := Lib.hid (show (x.p10 = 3 ∨ x.p10 = 1 ∨ x.p10 = 2) ∧ (0 ≤ x.p10 ∧ x.p10 ≤ 4) by have := H3.out; omega)
  have HE1 := Lib.hid (show tF = sendM (mapTo (blkF ip t.s.cf.p3) t n) ip agrQ by have q : n = t.s.po.length := LEN.out.1; rw [HTF.out, q]; unfold answerM; rw [HX.out]; show (if _ then _ else _) = _; rw [if_pos HRR.out.1])
  go_upto_region 4 with fail
  refine lz (wz6 (pT b 0) (pT b 0) (pT b 0) (pT b 6) (.slice (some ⟨g, 0, none⟩) n m) (iV (n : Nat)) (h5 := by have q : w.cell? ⟨b, 6, none⟩ = some (.slice (some ⟨g, 0, none⟩) n m) := K.out.acell 6 rfl; go_simp) (h := wz1 (iV 0) (h := nz ?_)))
  go_upto_region 5 with fail
  go_loopw [25] (fun i wr => ∃ k : Nat, k ≤ n ∧ i = .int .i64 k ∧ Ta ⟨w, ⟨T, b, some ⟨g, 0, none⟩, n, m, v2, v3, v4⟩, F⟩ [] (mapTo (blkF ip t.s.cf.p3) t k) wr) (fun i _ => (n - intOf i).toNat)
  case atStart => exact ⟨0, Nat.zero_le _, rfl, K.out⟩
  case round =>
   obtain ⟨k, hk, rfl, hK⟩ := hrel
   obtain ⟨t2, ht2⟩ : ∃ z, z = mapTo (blkF ip t.s.cf.p3) t k := ⟨_, rfl⟩
   rw [← ht2] at hK
   have KR := Lib.hid hK
   have HT2 := Lib.hid ht2
   have HK := Lib.hid hk
   have HC2 := Lib.hid (show t2.s.po.length = t.s.po.length ∧ t2.told = t.told ∧ t2.s.cf = t.s.cf ∧ t2.s.po[ip]? = some x by have q := mapTo_is (blkF ip t.s.cf.p3) t k; have q2 := mapTo_get (blkF ip t.s.cf.p3) t ip k; rw [← ht2] at q q2; refine ⟨q.1, q.2.2.2, q.2.1, ?_⟩; rw [q2, HX.out]; show (if _ then some (if ip = ip then x else _) else _) = _; rw [if_pos rfl]; split <;> rfl)
   clear hK ht2 hk
   have i1 : (n : Int) ≤ 100 := by have q : n ≤ 100 := KR.out.few; omega
   by_cases hlt : k < n
   case neg =>
    have HLT1 := Lib.hid hlt
    clear hlt
    go_upto_region 5 with fail
    refine lz (wz1 (.bool false) (h1 := by have q := HLT1.out; go_simp) (h := nz ?_))
    have hkn : n = k := by have q1 := HK.out; have q2 := HLT1.out; omega
    have HEF := Lib.hid (show tF = sendM t2 ip agrQ by rw [HE1.out, hkn, ← HT2.out])
    clear hkn
    go_upto_region 10 with fail
    refine lz (wz3 (pT b 0) (iV (ip : Nat)) (.agg (pdA ⟨0, false, false, false, false, true, false, 0, 0, 0, 0, 0, 0, 0, 0, 0⟩)) (h3 := by exact run_build_of 61 [(5, .const (.bool true))] rfl _ (pdA ⟨0, false, false, false, false, true, false, 0, 0, 0, 0, 0, 0, 0, 0, 0⟩) rfl (by kernel_rfl)) (h := ?_))
    refine ta_act KR.out 61 #[.pointer (some ⟨b, 0, none⟩), .int .i64 (ip : Nat), .agg (pdA ⟨0, false, false, false, false, true, false, 0, 0, 0, 0, 0, 0, 0, 0, 0⟩)] (sendM t2 ip agrQ) (by rfl) (by go_simp) (fun tv fv h => send_any agrQ h HC2.out.2.2.2 HRR.out.2 (by rw [HC2.out.2.1]; exact HTL.out)) (py (h := ?_))
    intro w2 K2
    refine wpList_nil ?_
    have KZ := Lib.hid (show Ta ⟨w, ⟨T, b, some ⟨g, 0, none⟩, n, m, v2, v3, v4⟩, F⟩ [] tF w2 from by rw [HEF.out]; exact K2.out)
    go_wp2_with fail
    go_end0
    exact ⟨rfl, by have q := KZ.out; rw [HF.out] at q; exact q.done⟩
   case pos =>
    have HLK := Lib.hid hlt
    obtain ⟨y, hy⟩ : ∃ y, t2.s.po[k]? = some y := ⟨_, List.getElem?_eq_getElem (show k < t2.s.po.length by have q1 : n = t2.s.po.length := KR.out.len.1; omega)⟩
    have HY := Lib.hid hy
    clear hy
    clear hlt
    have HLP := Lib.hid (show k < t2.s.po.length from (List.getElem?_eq_some_iff.1 HY.out).1)
    go_upto_region 5 with fail
    refine lz (wz1 (.bool true) (h1 := by have q := HLK.out; go_simp) (h := nz ?_))
    go_upto_region 6 with fail
    refine lz (wz3 (iV (k : Nat)) (pT g (k * 21)) (.agg (poA y)) (h2 := by have q1 : k < n := HLK.out; have q2 : n ≤ m := LEN.out.2.1; go_simp) (h3 := by exact run_loadRange 73 _ rfl g (k * 21) rfl (poA y) _ (KR.out.prange rfl HY.out) Tryd.underlying73 rfl (po_info _)) (h := ?_))
    refine ta_alloc KR.out 73 (nil21) rfl z50 (by rfl) (pz (h := ?_))
    intro b2 w2 K2
    refine wz1 (iV (k : Nat)) (h := ?_)
    refine ta_row K2.out 0 rfl 73 _ _ (poA y) rfl rfl rfl rfl (size50) (by rfl) (po_all _) (py (h := ?_))
    intro w3 K3
    refine wpList_nil ?_
    go_upto_region 7 with fail
    by_cases hki : (k : Int) = (ip : Int)
    case pos =>
     have hkn : k = ip := by omega
     have HKI := Lib.hid hki
     clear hki
     have HKN := Lib.hid hkn
     clear hkn
     refine lz (wz3 (iV (k : Nat)) (iV (ip : Nat)) (.bool false) (h3 := by have q := HKI.out; go_simp) (h := nz ?_))
     have K3y := Lib.hid (Ta.left (l := []) K3.out)
     have hlt := HLK.out
     go_wp2_with fail
     go_roundw
     case rel => exact ⟨k + 1, HLK.out, by go_num, by rw [show mapTo (blkF ip t.s.cf.p3) t (k + 1) = t2 from by show mapStep (blkF ip t.s.cf.p3) (mapTo (blkF ip t.s.cf.p3) t k) k = _; rw [← HT2.out, mapStep_some HY.out]; show t2.setPo (t2.s.po.set k (if k = ip then y else _)) = t2; rw [if_pos HKN.out, set_same HY.out]; rfl]; exact K3y.out⟩
     case measure => have := HLK.out; simp [intOf]; omega
    case neg =>
     have hkn : ¬ k = ip := by omega
     have HKI := Lib.hid hki
     clear hki
     have HKN := Lib.hid hkn
     clear hkn
     refine lz (wz3 (iV (k : Nat)) (iV (ip : Nat)) (.bool true) (h3 := by have q := HKI.out; go_simp) (h := nz ?_))
     go_upto_region 8 with fail
     obtain ⟨u, hu⟩ : ∃ u, u = blockP y t2.s.cf.p3 := ⟨_, rfl⟩
     have HU := Lib.hid hu
     clear hu
     refine rk (fun (_ : Unit) => [pT b 0, pT b 0, pT b 0, pT b 6, .slice (some ⟨g, 0, none⟩) n m, iV (k : Nat), .agg (poA y), pT b 0, pT b 0, pT b 0, pT b 0, .agg (cfA t2.s.cf), .agg (poA u), pT g (k * 21), undef]) (fun _ Lx w' => Ta ⟨w, ⟨T, b, some ⟨g, 0, none⟩, n, m, v2, v3, v4⟩, F⟩ [(b2, poA y, 73)] (bif Lx 14 then t2.setPo (t2.s.po.set k u) else t2) w') (()) [] [] [(4, fun _ => [(36, pT b 6)]), (6, fun _ => [(5, pT b2 0)]), (11, fun _ => [(43, pT b 0)]), (12, fun _ => [(39, .agg (poA y)), (44, .agg (cfA t2.s.cf))]), (13, fun _ => [(37, .slice (some ⟨g, 0, none⟩) n m), (38, iV (k : Nat))]), (14, fun _ => [(45, .agg (poA u)), (46, pT g (k * 21))])] [14] (K3.out.drew) (fun _ _ _ _ => trivial) (fun _ L1 L2 _ e h => by (try dsimp only at h ⊢); rw [← e 14 (by decide)]; exact h) ?_ ?_
     ·
      refine ⟨?_, ?_, ?_, ?_, ?_, ?_, trivial⟩ <;> (rintro _ Lx w' hw hL haft hdc ρ hc hf hG hs o ho; cases ho; try dsimp only [pT, iV, seen] at hw hs)
      ·
       have hn14 : Lx 14 = false := nup (fun cq => hdc 13 (hdc 14 cq 13 (by decide)) 4 (by decide)) hL
       have hwo : Ta ⟨w, ⟨T, b, some ⟨g, 0, none⟩, n, m, v2, v3, v4⟩, F⟩ [(b2, poA y, 73)] (t2) w' := by rw [hn14] at hw; exact hw
       exact sq (.slice (some ⟨g, 0, none⟩) n m) (by have q : w'.cell? ⟨b, 6, none⟩ = some (.slice (some ⟨g, 0, none⟩) n m) := hwo.acell 6 rfl; go_simp)
      ·
       obtain ⟨e5, _⟩ := hs
       have hn14 : Lx 14 = false := nup (fun cq => hdc 12 (hdc 14 cq 12 (by decide)) 6 (by decide)) hL
       have hwo : Ta ⟨w, ⟨T, b, some ⟨g, 0, none⟩, n, m, v2, v3, v4⟩, F⟩ [(b2, poA y, 73)] (t2) w' := by rw [hn14] at hw; exact hw
       exact sq (.agg (poA y)) (l_var 73 _ rfl _ e5 _ _ _ (Ta.at (i := 0) hwo rfl) Tryd.underlying73 rfl (size50))
      ·
       obtain ⟨e43, _⟩ := hs
       have hn14 : Lx 14 = false := nup (fun cq => hdc 12 (hdc 14 cq 12 (by decide)) 11 (by decide)) hL
       have hwo : Ta ⟨w, ⟨T, b, some ⟨g, 0, none⟩, n, m, v2, v3, v4⟩, F⟩ [(b2, poA y, 73)] (t2) w' := by rw [hn14] at hw; exact hw
       exact sq (.agg (cfA t2.s.cf)) (by obtain ⟨cs, ty, q1, q2⟩ := hwo.conf; exact l_partof 31 _ rfl b 0 e43 ty cs (cfA t2.s.cf).toList _ q1 q2 Tryd.underlying31 rfl (cf_info _))
      ·
       have hn14 : Lx 14 = false := nup (fun cq => hdc 14 cq 12 (by decide)) hL
       have hwo : Ta ⟨w, ⟨T, b, some ⟨g, 0, none⟩, n, m, v2, v3, v4⟩, F⟩ [(b2, poA y, 73)] (t2) w' := by rw [hn14] at hw; exact hw
       exact sc (.agg (poA u)) 48 #[.agg (poA y), .agg (cfA t2.s.cf)] (by have q := block_any y t2.s.cf w'; rw [← HU.out] at q; exact q) (by go_simp) (fun w2 hb => ⟨(), fun _ _ => rfl, rfl, hw.next hb⟩)
      ·
       exact sq (pT g (k * 21)) (by have q1 : k < n := HLK.out; have q2 : n ≤ m := LEN.out.2.1; go_simp)
      ·
       obtain ⟨e45, e46, _⟩ := hs
       have hw0 : Ta ⟨w, ⟨T, b, some ⟨g, 0, none⟩, n, m, v2, v3, v4⟩, F⟩ [(b2, poA y, 73)] (t2) w' := by rw [hL] at hw; exact hw
       exact sm 73 _ _ rfl g (k * 21) (poA u) e46 e45 (hw0.pthere rfl HLP.out) (po_info _) (po_all _) ⟨(), fun _ _ => rfl, rfl, hw0.pput rfl HLP.out⟩
     intro _ Lx w4 hw hall
     try dsimp only at hw
     simp only [pT, iV, List.toList_toArray, putsZ_some, putsZ_none, putsZ_nil, List.setIfInBounds_toArray, List.set_cons_zero, List.set_cons_succ]
     rw [hall 14 (by decide)] at hw
     simp only [cond_true] at hw
     have K4 := Lib.hid hw
     clear hw hall
     have K4y := Lib.hid (Ta.left (l := []) K4.out)
     have hlt := HLK.out
     go_wp2_with fail
     go_roundw
     case rel => exact ⟨k + 1, HLK.out, by go_num, by rw [show mapTo (blkF ip t.s.cf.p3) t (k + 1) = t2.setPo (t2.s.po.set k u) from by show mapStep (blkF ip t.s.cf.p3) (mapTo (blkF ip t.s.cf.p3) t k) k = _; rw [← HT2.out, mapStep_some HY.out]; show t2.setPo (t2.s.po.set k (if k = ip then y else blockP y t.s.cf.p3)) = _; rw [if_neg HKN.out, ← HC2.out.2.2.1, ← HU.out]]; exact K4y.out⟩
     case measure => have := HLK.out; simp [intOf]; omega
 case inr.inr.inl =>
  have H3 := Lib.hid h3
  clear h3
  refine lz (wz2 (.bool false) (.bool false) (h1 := by have q : ¬ x.p10 = 3 := (by have := H3.out; omega); go_simp) (h := nz ?_))
  go_upto_region 2 with fail
  refine lz (wz2 (.bool false) (.bool false) (h1 := by have q : ¬ x.p10 = 1 := (by have := H3.out; omega); go_simp) (h := nz ?_))
  go_upto_region 3 with fail
  refine lz (wz2 (.bool true) (.bool true) (h1 := by have q : x.p10 = 2 := (by have := H3.out; omega); go_simp) (h := nz ?_))
  have HRR := Lib.hid (show (x.p10 = 3 ∨ x.p10 = 1 ∨ x.p10 = 2) ∧ (0 ≤ x.p10 ∧ x.p10 ≤ 4) by have := H3.out; omega)
  have HE1 := Lib.hid (show tF = sendM (mapTo (blkF ip t.s.cf.p3) t n) ip agrQ by have q : n = t.s.po.length := LEN.out.1; rw [HTF.out, q]; unfold answerM; rw [HX.out]; show (if _ then _ else _) = _; rw [if_pos HRR.out.1])
  go_upto_region 4 with fail
  refine lz (wz6 (pT b 0) (pT b 0) (pT b 0) (pT b 6) (.slice (some ⟨g, 0, none⟩) n m) (iV (n : Nat)) (h5 := by have q : w.cell? ⟨b, 6, none⟩ = some (.slice (some ⟨g, 0, none⟩) n m) := K.out.acell 6 rfl; go_simp) (h := wz1 (iV 0) (h := nz ?_)))
  go_upto_region 5 with fail
  go_loopw [25] (fun i wr => ∃ k : Nat, k ≤ n ∧ i = .int .i64 k ∧ Ta ⟨w, ⟨T, b, some ⟨g, 0, none⟩, n, m, v2, v3, v4⟩, F⟩ [] (mapTo (blkF ip t.s.cf.p3) t k) wr) (fun i _ => (n - intOf i).toNat)
  case atStart => exact ⟨0, Nat.zero_le _, rfl, K.out⟩
  case round =>
   obtain ⟨k, hk, rfl, hK⟩ := hrel
   obtain ⟨t2, ht2⟩ : ∃ z, z = mapTo (blkF ip t.s.cf.p3) t k := ⟨_, rfl⟩
   rw [← ht2] at hK
   have KR := Lib.hid hK
   have HT2 := Lib.hid ht2
   have HK := Lib.hid hk
   have HC2 := Lib.hid (show t2.s.po.length = t.s.po.length ∧ t2.told = t.told ∧ t2.s.cf = t.s.cf ∧ t2.s.po[ip]? = some x by have q := mapTo_is (blkF ip t.s.cf.p3) t k; have q2 := mapTo_get (blkF ip t.s.cf.p3) t ip k; rw [← ht2] at q q2; refine ⟨q.1, q.2.2.2, q.2.1, ?_⟩; rw [q2, HX.out]; show (if _ then some (if ip = ip then x else _) else _) = _; rw [if_pos rfl]; split <;> rfl)
   clear hK ht2 hk
   have i1 : (n : Int) ≤ 100 := by have q : n ≤ 100 := KR.out.few; omega
   by_cases hlt : k < n
   case neg =>
    have HLT1 := Lib.hid hlt
    clear hlt
    go_upto_region 5 with fail
    refine lz (wz1 (.bool false) (h1 := by have q := HLT1.out; go_simp) (h := nz ?_))
    have hkn : n = k := by have q1 := HK.out; have q2 := HLT1.out; omega
    have HEF := Lib.hid (show tF = sendM t2 ip agrQ by rw [HE1.out, hkn, ← HT2.out])
    clear hkn
    go_upto_region 10 with fail
    refine lz (wz3 (pT b 0) (iV (ip : Nat)) (.agg (pdA ⟨0, false, false, false, false, true, false, 0, 0, 0, 0, 0, 0, 0, 0, 0⟩)) (h3 := by exact run_build_of 61 [(5, .const (.bool true))] rfl _ (pdA ⟨0, false, false, false, false, true, false, 0, 0, 0, 0, 0, 0, 0, 0, 0⟩) rfl (by kernel_rfl)) (h := ?_))
    refine ta_act KR.out 61 #[.pointer (some ⟨b, 0, none⟩), .int .i64 (ip : Nat), .agg (pdA ⟨0, false, false, false, false, true, false, 0, 0, 0, 0, 0, 0, 0, 0, 0⟩)] (sendM t2 ip agrQ) (by rfl) (by go_simp) (fun tv fv h => send_any agrQ h HC2.out.2.2.2 HRR.out.2 (by rw [HC2.out.2.1]; exact HTL.out)) (py (h := ?_))
    intro w2 K2
    refine wpList_nil ?_
    have KZ := Lib.hid (show Ta ⟨w, ⟨T, b, some ⟨g, 0, none⟩, n, m, v2, v3, v4⟩, F⟩ [] tF w2 from by rw [HEF.out]; exact K2.out)
    go_wp2_with fail
    go_end0
    exact ⟨rfl, by have q := KZ.out; rw [HF.out] at q; exact q.done⟩
   case pos =>
    have HLK := Lib.hid hlt
    obtain ⟨y, hy⟩ : ∃ y, t2.s.po[k]? = some y := ⟨_, List.getElem?_eq_getElem (show k < t2.s.po.length by have q1 : n = t2.s.po.length := KR.out.len.1; omega)⟩
    have HY := Lib.hid hy
    clear hy
    clear hlt
    have HLP := Lib.hid (show k < t2.s.po.length from (List.getElem?_eq_some_iff.1 HY.out).1)
    go_upto_region 5 with fail
    refine lz (wz1 (.bool true) (h1 := by have q := HLK.out; go_simp) (h := nz ?_))
    go_upto_region 6 with fail
    refine lz (wz3 (iV (k : Nat)) (pT g (k * 21)) (.agg (poA y)) (h2 := by have q1 : k < n := HLK.out; have q2 : n ≤ m := LEN.out.2.1; go_simp) (h3 := by exact run_loadRange 73 _ rfl g (k * 21) rfl (poA y) _ (KR.out.prange rfl HY.out) Tryd.underlying73 rfl (po_info _)) (h := ?_))
    refine ta_alloc KR.out 73 (nil21) rfl z50 (by rfl) (pz (h := ?_))
    intro b2 w2 K2
    refine wz1 (iV (k : Nat)) (h := ?_)
    refine ta_row K2.out 0 rfl 73 _ _ (poA y) rfl rfl rfl rfl (size50) (by rfl) (po_all _) (py (h := ?_))
    intro w3 K3
    refine wpList_nil ?_
    go_upto_region 7 with fail
    by_cases hki : (k : Int) = (ip : Int)
    case pos =>
     have hkn : k = ip := by omega
     have HKI := Lib.hid hki
     clear hki
     have HKN := Lib.hid hkn
     clear hkn
     refine lz (wz3 (iV (k : Nat)) (iV (ip : Nat)) (.bool false) (h3 := by have q := HKI.out; go_simp) (h := nz ?_))
     have K3y := Lib.hid (Ta.left (l := []) K3.out)
     have hlt := HLK.out
     go_wp2_with fail
     go_roundw
     case rel => exact ⟨k + 1, HLK.out, by go_num, by rw [show mapTo (blkF ip t.s.cf.p3) t (k + 1) = t2 from by show mapStep (blkF ip t.s.cf.p3) (mapTo (blkF ip t.s.cf.p3) t k) k = _; rw [← HT2.out, mapStep_some HY.out]; show t2.setPo (t2.s.po.set k (if k = ip then y else _)) = t2; rw [if_pos HKN.out, set_same HY.out]; rfl]; exact K3y.out⟩
     case measure => have := HLK.out; simp [intOf]; omega
    case neg =>
     have hkn : ¬ k = ip := by omega
     have HKI := Lib.hid hki
     clear hki
     have HKN := Lib.hid hkn
     clear hkn
     refine lz (wz3 (iV (k : Nat)) (iV (ip : Nat)) (.bool true) (h3 := by have q := HKI.out; go_simp) (h := nz ?_))
     go_upto_region 8 with fail
     obtain ⟨u, hu⟩ : ∃ u, u = blockP y t2.s.cf.p3 := ⟨_, rfl⟩
     have HU := Lib.hid hu
     clear hu
     refine rk (fun (_ : Unit) => [pT b 0, pT b 0, pT b 0, pT b 6, .slice (some ⟨g, 0, none⟩) n m, iV (k : Nat), .agg (poA y), pT b 0, pT b 0, pT b 0, pT b 0, .agg (cfA t2.s.cf), .agg (poA u), pT g (k * 21), undef]) (fun _ Lx w' => Ta ⟨w, ⟨T, b, some ⟨g, 0, none⟩, n, m, v2, v3, v4⟩, F⟩ [(b2, poA y, 73)] (bif Lx 14 then t2.setPo (t2.s.po.set k u) else t2) w') (()) [] [] [(4, fun _ => [(36, pT b 6)]), (6, fun _ => [(5, pT b2 0)]), (11, fun _ => [(43, pT b 0)]), (12, fun _ => [(39, .agg (poA y)), (44, .agg (cfA t2.s.cf))]), (13, fun _ => [(37, .slice (some ⟨g, 0, none⟩) n m), (38, iV (k : Nat))]), (14, fun _ => [(45, .agg (poA u)), (46, pT g (k * 21))])] [14] (K3.out.drew) (fun _ _ _ _ => trivial) (fun _ L1 L2 _ e h => by (try dsimp only at h ⊢); rw [← e 14 (by decide)]; exact h) ?_ ?_
     ·
      refine ⟨?_, ?_, ?_, ?_, ?_, ?_, trivial⟩ <;> (rintro _ Lx w' hw hL haft hdc ρ hc hf hG hs o ho; cases ho; try dsimp only [pT, iV, seen] at hw hs)
      ·
       have hn14 : Lx 14 = false := nup (fun cq => hdc 13 (hdc 14 cq 13 (by decide)) 4 (by decide)) hL
       have hwo : Ta ⟨w, ⟨T, b, some ⟨g, 0, none⟩, n, m, v2, v3, v4⟩, F⟩ [(b2, poA y, 73)] (t2) w' := by rw [hn14] at hw; exact hw
       exact sq (.slice (some ⟨g, 0, none⟩) n m) (by have q : w'.cell? ⟨b, 6, none⟩ = some (.slice (some ⟨g, 0, none⟩) n m) := hwo.acell 6 rfl; go_simp)
      ·
       obtain ⟨e5, _⟩ := hs
       have hn14 : Lx 14 = false := nup (fun cq => hdc 12 (hdc 14 cq 12 (by decide)) 6 (by decide)) hL
       have hwo : Ta ⟨w, ⟨T, b, some ⟨g, 0, none⟩, n, m, v2, v3, v4⟩, F⟩ [(b2, poA y, 73)] (t2) w' := by rw [hn14] at hw; exact hw
       exact sq (.agg (poA y)) (l_var 73 _ rfl _ e5 _ _ _ (Ta.at (i := 0) hwo rfl) Tryd.underlying73 rfl (size50))
      ·
       obtain ⟨e43, _⟩ := hs
       have hn14 : Lx 14 = false := nup (fun cq => hdc 12 (hdc 14 cq 12 (by decide)) 11 (by decide)) hL
       have hwo : Ta ⟨w, ⟨T, b, some ⟨g, 0, none⟩, n, m, v2, v3, v4⟩, F⟩ [(b2, poA y, 73)] (t2) w' := by rw [hn14] at hw; exact hw
       exact sq (.agg (cfA t2.s.cf)) (by obtain ⟨cs, ty, q1, q2⟩ := hwo.conf; exact l_partof 31 _ rfl b 0 e43 ty cs (cfA t2.s.cf).toList _ q1 q2 Tryd.underlying31 rfl (cf_info _))
      ·
       have hn14 : Lx 14 = false := nup (fun cq => hdc 14 cq 12 (by decide)) hL
       have hwo : Ta ⟨w, ⟨T, b, some ⟨g, 0, none⟩, n, m, v2, v3, v4⟩, F⟩ [(b2, poA y, 73)] (t2) w' := by rw [hn14] at hw; exact hw
       exact sc (.agg (poA u)) 48 #[.agg (poA y), .agg (cfA t2.s.cf)] (by have q := block_any y t2.s.cf w'; rw [← HU.out] at q; exact q) (by go_simp) (fun w2 hb => ⟨(), fun _ _ => rfl, rfl, hw.next hb⟩)
      ·
       exact sq (pT g (k * 21)) (by have q1 : k < n := HLK.out; have q2 : n ≤ m := LEN.out.2.1; go_simp)
      ·
       obtain ⟨e45, e46, _⟩ := hs
       have hw0 : Ta ⟨w, ⟨T, b, some ⟨g, 0, none⟩, n, m, v2, v3, v4⟩, F⟩ [(b2, poA y, 73)] (t2) w' := by rw [hL] at hw; exact hw
       exact sm 73 _ _ rfl g (k * 21) (poA u) e46 e45 (hw0.pthere rfl HLP.out) (po_info _) (po_all _) ⟨(), fun _ _ => rfl, rfl, hw0.pput rfl HLP.out⟩
     intro _ Lx w4 hw hall
     try dsimp only at hw
     simp only [pT, iV, List.toList_toArray, putsZ_some, putsZ_none, putsZ_nil, List.setIfInBounds_toArray, List.set_cons_zero, List.set_cons_succ]
     rw [hall 14 (by decide)] at hw
     simp only [cond_true] at hw
     have K4 := Lib.hid hw
     clear hw hall
     have K4y := Lib.hid (Ta.left (l := []) K4.out)
     have hlt := HLK.out
     go_wp2_with fail
     go_roundw
     case rel => exact ⟨k + 1, HLK.out, by go_num, by rw [show mapTo (blkF ip t.s.cf.p3) t (k + 1) = t2.setPo (t2.s.po.set k u) from by show mapStep (blkF ip t.s.cf.p3) (mapTo (blkF ip t.s.cf.p3) t k) k = _; rw [← HT2.out, mapStep_some HY.out]; show t2.setPo (t2.s.po.set k (if k = ip then y else blockP y t.s.cf.p3)) = _; rw [if_neg HKN.out, ← HC2.out.2.2.1, ← HU.out]]; exact K4y.out⟩
     case measure => have := HLK.out; simp [intOf]; omega
 case inr.inr.inr =>
  have H3 := Lib.hid h3
  clear h3
  refine lz (wz2 (.bool false) (.bool false) (h1 := by have q : ¬ x.p10 = 3 := (by have := H3.out; omega); go_simp) (h := nz ?_))
  go_upto_region 2 with fail
  refine lz (wz2 (.bool false) (.bool false) (h1 := by have q : ¬ x.p10 = 1 := (by have := H3.out; omega); go_simp) (h := nz ?_))
  go_upto_region 3 with fail
  refine lz (wz2 (.bool false) (.bool false) (h1 := by have q : ¬ x.p10 = 2 := (by have := H3.out; omega); go_simp) (h := nz ?_))
  have e : tF = t := by rw [HTF.out]; unfold answerM; rw [HX.out]; show (if _ then _ else _) = _; rw [if_neg H3.out]
  have KZ := Lib.hid (show Ta ⟨w, ⟨T, b, some ⟨g, 0, none⟩, n, m, v2, v3, v4⟩, F⟩ [] tF w from e ▸ K.out)
  clear e
  go_wp2_with fail
  (try simp only [Exit.inBlock, Exit.then]); refine bodyPost_ret (results_none rfl _ _ _) rfl ?_
  exact ⟨rfl, by have q := KZ.out; rw [HF.out] at q; exact q.done⟩
end
section
open Go.RowKit
attribute [local irreducible] wpQuiet wpList
set_option maxRecDepth 100000 in
set_option maxHeartbeats 8000000 in
theorem agreeM_any {T b n m : Nat} {a : Option Addr} {v2 v3 v4 tv fv : Value} {t : TS} {w : World} {ip : Nat} {x : Po} {u : Vc} (q : Pd) (v : Vc) (h : Tact w ⟨T, b, a, n, m, v2, v3, v4⟩ tv fv t) (hx : t.s.po[ip]? = some (poU x u)) (hfl : t.fl.length + n ≤ 1000) : Calls Tryd.prog 64 #[.pointer (some ⟨b, 0, none⟩), .int .i64 (ip : Nat), pdV (pdU q v)] w fun e w' => e = .returned (.tuple #[]) ∧ Done w ⟨T, b, a, n, m, v2, v3, v4⟩ tv fv (agreeM t ip q v) w' := by
 have HFL := Lib.hid hfl
 have CE := Lib.hid (fun w => equal_vc v u w)
 clear hfl
 rw [show pdV (pdU q v) = .agg (pdA { q with p8 := (v.r : Nat), p9 := (v.c : Nat), p10 := (v.b : Nat), p11 := (v.p : Nat) }) from rfl]
 obtain ⟨tF, htF⟩ : ∃ z, z = agreeM t ip q v := ⟨_, rfl⟩
 rw [← htF]
 have HTF := Lib.hid htF
 clear htF
 have LEN := Lib.hid h.len
 obtain ⟨g, rfl⟩ : ∃ g, a = some ⟨g, 0, none⟩ := h.ptr hx
 have HX := Lib.hid hx
 have HLT := Lib.hid (show ip < n by have q := (List.getElem?_eq_some_iff.1 hx).1; have q2 := h.len.1; exact Nat.lt_of_lt_of_eq q q2.symm)
 clear hx
 obtain ⟨F, hF⟩ : ∃ F, F = foot ⟨T, b, some ⟨g, 0, none⟩, n, m, v2, v3, v4⟩ tv fv := ⟨_, rfl⟩
 have HF := Lib.hid hF
 have K := Lib.hid (show Ta ⟨w, ⟨T, b, some ⟨g, 0, none⟩, n, m, v2, v3, v4⟩, F⟩ [] t w from hF ▸ h.start)
 clear hF h
 go_enter Tryd.func64, Tryd.ntmps64
 go_upto_region 0 with fail
 have HLP := Lib.hid (show ip < t.s.po.length from (List.getElem?_eq_some_iff.1 HX.out).1)
 refine wp_region_lit ?_
 refine ta_box K.out 61 (.tmp 2) (pdA { q with p8 := (v.r : Nat), p9 := (v.c : Nat), p10 := (v.b : Nat), p11 := (v.p : Nat) }) rfl rfl (by rfl) (pz (h := ?_))
 intro b1 w1 K1
 refine wpList_nil ?_
 go_upto_region 1 with fail
 refine lz (wz6 (pT b 0) (pT b 0) (pT b 0) (pT b 6) (.slice (some ⟨g, 0, none⟩) n m) (iV (ip : Nat)) (h5 := by have q : w1.cell? ⟨b, 6, none⟩ = some (.slice (some ⟨g, 0, none⟩) n m) := K1.out.acell 6 rfl; go_simp) (h := wz2 (pT g (ip * 21)) (.agg (poA { x with p13 := (u.r : Nat), p14 := (u.c : Nat), p15 := (u.b : Nat), p16 := (u.p : Nat) })) (h1 := by have q1 : ip < n := HLT.out; have q2 : n ≤ m := LEN.out.2.1; go_simp) (h2 := by exact run_loadRange 73 _ rfl g (ip * 21) rfl (poA { x with p13 := (u.r : Nat), p14 := (u.c : Nat), p15 := (u.b : Nat), p16 := (u.p : Nat) }) _ (K1.out.prange rfl HX.out) Tryd.underlying73 rfl (po_info _)) (h := ?_)))
 refine ta_alloc K1.out 73 (nil21) rfl z50 (by rfl) (pz (h := ?_))
 intro b2 w2 K2
 refine ta_row K2.out 1 rfl 73 _ _ (poA { x with p13 := (u.r : Nat), p14 := (u.c : Nat), p15 := (u.b : Nat), p16 := (u.p : Nat) }) rfl rfl rfl rfl (size50) (by rfl) (po_all _) (py (h := ?_))
 intro w3 K3
 refine wpList_nil ?_
 go_upto_region 2 with fail
 rcases (show q.p5 = true ∨ q.p5 = false by cases q.p5 <;> simp) with h5 | h5
 case inr =>
  have H5 := Lib.hid h5
  clear h5
  refine rk (fun (_ : Unit) => [pT b1 5, .bool false, .bool true, .bool true, undef, undef, undef, .bool true, .bool true, undef, undef, undef, undef, undef, .bool true]) (fun _ Lx w' => Ta ⟨w, ⟨T, b, some ⟨g, 0, none⟩, n, m, v2, v3, v4⟩, F⟩ [(b1, pdA { q with p8 := (v.r : Nat), p9 := (v.c : Nat), p10 := (v.b : Nat), p11 := (v.p : Nat) }, 61), (b2, poA { x with p13 := (u.r : Nat), p14 := (u.c : Nat), p15 := (u.b : Nat), p16 := (u.p : Nat) }, 73)] (t) w') (()) [4, 5, 6, 9, 10, 11, 12, 13] [] [(1, fun _ => [(17, pT b1 5)])] [] (K3.out.drew) (fun _ _ _ _ => trivial) (fun _ _ _ _ _ h => h) ?_ ?_
  ·
   refine ⟨?_, trivial⟩ <;> (rintro _ Lx w' hw hL haft hdc ρ hc hf hG hs o ho; cases ho; try dsimp only [pT, iV, seen] at hw hs)
   ·
    exact sq (.bool false) (by have q0 : w'.cell? ⟨b1, 5, none⟩ = some (.bool q.p5) := Ta.cell (i := 0) hw rfl (by rfl); rw [H5.out] at q0; go_simp)
  intro _ Lx w4 hw hall
  try dsimp only at hw
  simp only [pT, iV, List.toList_toArray, putsZ_some, putsZ_none, putsZ_nil, List.setIfInBounds_toArray, List.set_cons_zero, List.set_cons_succ]
  have K4 := Lib.hid hw
  clear hw hall
  have e1 : tF = t := by rw [HTF.out]; unfold agreeM; rw [HX.out]; show (if _ then _ else _) = _; rw [if_neg (fun c => by have := c.1; rw [H5.out] at this; exact Bool.noConfusion this)]
  have KZ := Lib.hid (show Ta ⟨w, ⟨T, b, some ⟨g, 0, none⟩, n, m, v2, v3, v4⟩, F⟩ [(b1, pdA { q with p8 := (v.r : Nat), p9 := (v.c : Nat), p10 := (v.b : Nat), p11 := (v.p : Nat) }, 61), (b2, poA { x with p13 := (u.r : Nat), p14 := (u.c : Nat), p15 := (u.b : Nat), p16 := (u.p : Nat) }, 73)] tF w4 from e1 ▸ K4.out)
  clear e1
  go_wp2_with fail
  (try simp only [Exit.inBlock, Exit.then]); refine bodyPost_ret (results_none rfl _ _ _) rfl ?_
  exact ⟨rfl, by have q := KZ.out; rw [HF.out] at q; exact q.done⟩
 case inl =>
  have H5 := Lib.hid h5
  clear h5
  by_cases h4 : x.p10 = 4
  case neg =>
   have H4 := Lib.hid h4
   clear h4
   refine rk (fun (_ : Unit) => [pT b1 5, .bool true, .bool false, .bool false, pT b2 10, iV x.p10, .bool true, .bool true, .bool true, undef, undef, undef, undef, undef, .bool true]) (fun _ Lx w' => Ta ⟨w, ⟨T, b, some ⟨g, 0, none⟩, n, m, v2, v3, v4⟩, F⟩ [(b1, pdA { q with p8 := (v.r : Nat), p9 := (v.c : Nat), p10 := (v.b : Nat), p11 := (v.p : Nat) }, 61), (b2, poA { x with p13 := (u.r : Nat), p14 := (u.c : Nat), p15 := (u.b : Nat), p16 := (u.p : Nat) }, 73)] (t) w') (()) [9, 10, 11, 12, 13] [(5, fun _ => ⟨b2, 10, none⟩)] [(1, fun _ => [(17, pT b1 5)]), (6, fun _ => [(22, iV x.p10)])] [] (K3.out.drew) (fun _ Lx w' hw => ⟨fun _ => Ta.cell (i := 1) hw rfl (by rfl), trivial⟩) (fun _ _ _ _ _ h => h) ?_ ?_
   ·
    refine ⟨?_, ?_, trivial⟩ <;> (rintro _ Lx w' hw hL haft hdc ρ hc hf hG hs o ho; cases ho; try dsimp only [pT, iV, seen] at hw hs)
    ·
     exact sq (.bool true) (by have q0 : w'.cell? ⟨b1, 5, none⟩ = some (.bool q.p5) := Ta.cell (i := 0) hw rfl (by rfl); rw [H5.out] at q0; go_simp)
    ·
     exact sq (.bool true) (by have q := H4.out; go_simp)
   intro _ Lx w4 hw hall
   try dsimp only at hw
   simp only [pT, iV, List.toList_toArray, putsZ_some, putsZ_none, putsZ_nil, List.setIfInBounds_toArray, List.set_cons_zero, List.set_cons_succ]
   have K4 := Lib.hid hw
   clear hw hall
   have e1 : tF = t := by rw [HTF.out]; unfold agreeM; rw [HX.out]; show (if _ then _ else _) = _; rw [if_neg (fun c => H4.out c.2.1)]
   have KZ := Lib.hid (show Ta ⟨w, ⟨T, b, some ⟨g, 0, none⟩, n, m, v2, v3, v4⟩, F⟩ [(b1, pdA { q with p8 := (v.r : Nat), p9 := (v.c : Nat), p10 := (v.b : Nat), p11 := (v.p : Nat) }, 61), (b2, poA { x with p13 := (u.r : Nat), p14 := (u.c : Nat), p15 := (u.b : Nat), p16 := (u.p : Nat) }, 73)] tF w4 from e1 ▸ K4.out)
   clear e1
   go_wp2_with fail
   (try simp only [Exit.inBlock, Exit.then]); refine bodyPost_ret (results_none rfl _ _ _) rfl ?_
   exact ⟨rfl, by have q := KZ.out; rw [HF.out] at q; exact q.done⟩
  case pos =>
   have H4 := Lib.hid h4
   clear h4
   rcases (show eqV v u = true ∨ eqV v u = false by cases eqV v u <;> simp) with he | he
   case inr =>
    have HE := Lib.hid he
    clear he
    refine rk (fun (_ : Unit) => [pT b1 5, .bool true, .bool false, .bool false, pT b2 10, iV x.p10, .bool false, .bool false, .bool false, .agg (pdA { q with p8 := (v.r : Nat), p9 := (v.c : Nat), p10 := (v.b : Nat), p11 := (v.p : Nat) }), .agg (vcA v), pT b2 13, .agg (#[.int .u64 (u.r : Nat), .int .u32 (u.c : Nat), .int .u64 (u.b : Nat), .int .u16 (u.p : Nat)]), .bool true, .bool true]) (fun _ Lx w' => Ta ⟨w, ⟨T, b, some ⟨g, 0, none⟩, n, m, v2, v3, v4⟩, F⟩ [(b1, pdA { q with p8 := (v.r : Nat), p9 := (v.c : Nat), p10 := (v.b : Nat), p11 := (v.p : Nat) }, 61), (b2, poA { x with p13 := (u.r : Nat), p14 := (u.c : Nat), p15 := (u.b : Nat), p16 := (u.p : Nat) }, 73)] (t) w') (()) [] [(5, fun _ => ⟨b2, 10, none⟩)] [(1, fun _ => [(17, pT b1 5)]), (6, fun _ => [(22, iV x.p10)]), (9, fun _ => [(5, pT b1 0)]), (10, fun _ => [(26, .agg (pdA { q with p8 := (v.r : Nat), p9 := (v.c : Nat), p10 := (v.b : Nat), p11 := (v.p : Nat) }))]), (12, fun _ => [(28, pT b2 13)]), (13, fun _ => [(27, .agg (vcA v)), (29, .agg (#[.int .u64 (u.r : Nat), .int .u32 (u.c : Nat), .int .u64 (u.b : Nat), .int .u16 (u.p : Nat)]))])] [] (K3.out.drew) (fun _ Lx w' hw => ⟨fun _ => Ta.cell (i := 1) hw rfl (by rfl), trivial⟩) (fun _ _ _ _ _ h => h) ?_ ?_
    ·
     refine ⟨?_, ?_, ?_, ?_, ?_, ?_, trivial⟩ <;> (rintro _ Lx w' hw hL haft hdc ρ hc hf hG hs o ho; cases ho; try dsimp only [pT, iV, seen] at hw hs)
     ·
      exact sq (.bool true) (by have q0 : w'.cell? ⟨b1, 5, none⟩ = some (.bool q.p5) := Ta.cell (i := 0) hw rfl (by rfl); rw [H5.out] at q0; go_simp)
     ·
      exact sq (.bool false) (by have q := H4.out; go_simp)
     ·
      obtain ⟨e5, _⟩ := hs
      exact sq (.agg (pdA { q with p8 := (v.r : Nat), p9 := (v.c : Nat), p10 := (v.b : Nat), p11 := (v.p : Nat) })) (l_var 61 _ rfl _ e5 _ _ _ (Ta.at (i := 0) hw rfl) Tryd.underlying61 rfl (size_pd))
     ·
      exact sc (.agg (vcA v)) 78 #[.agg (pdA { q with p8 := (v.r : Nat), p9 := (v.c : Nat), p10 := (v.b : Nat), p11 := (v.p : Nat) })] (told_pd q v w') (by go_simp) (fun w2 hb => ⟨(), fun _ _ => rfl, rfl, hw.next hb⟩)
     ·
      obtain ⟨e28, _⟩ := hs
      exact sq (.agg (#[.int .u64 (u.r : Nat), .int .u32 (u.c : Nat), .int .u64 (u.b : Nat), .int .u16 (u.p : Nat)])) (l_partof 71 _ rfl _ 13 e28 _ _ ((#[.int .u64 (u.r : Nat), .int .u32 (u.c : Nat), .int .u64 (u.b : Nat), .int .u16 (u.p : Nat)]).toList) _ (Ta.at (i := 1) hw rfl) (part_of (by kernel_rfl)) Tryd.underlying71 rfl (sizeV))
     ·
      exact sq (.bool true) (by have q := CE.out; rw [HE.out] at q; go_simp)
    intro _ Lx w4 hw hall
    try dsimp only at hw
    simp only [pT, iV, List.toList_toArray, putsZ_some, putsZ_none, putsZ_nil, List.setIfInBounds_toArray, List.set_cons_zero, List.set_cons_succ]
    have K4 := Lib.hid hw
    clear hw hall
    have e1 : tF = t := by rw [HTF.out]; unfold agreeM; rw [HX.out]; show (if _ then _ else _) = _; rw [if_neg (fun c => by have := (poU_eq x u v).1 c.2.2; rw [HE.out] at this; exact Bool.noConfusion this)]
    have KZ := Lib.hid (show Ta ⟨w, ⟨T, b, some ⟨g, 0, none⟩, n, m, v2, v3, v4⟩, F⟩ [(b1, pdA { q with p8 := (v.r : Nat), p9 := (v.c : Nat), p10 := (v.b : Nat), p11 := (v.p : Nat) }, 61), (b2, poA { x with p13 := (u.r : Nat), p14 := (u.c : Nat), p15 := (u.b : Nat), p16 := (u.p : Nat) }, 73)] tF w4 from e1 ▸ K4.out)
    clear e1
    go_wp2_with fail
    (try simp only [Exit.inBlock, Exit.then]); refine bodyPost_ret (results_none rfl _ _ _) rfl ?_
    exact ⟨rfl, by have q := KZ.out; rw [HF.out] at q; exact q.done⟩
   case inl =>
    have HE := Lib.hid he
    clear he
    refine rk (fun (_ : Unit) => [pT b1 5, .bool true, .bool false, .bool false, pT b2 10, iV x.p10, .bool false, .bool false, .bool false, .agg (pdA { q with p8 := (v.r : Nat), p9 := (v.c : Nat), p10 := (v.b : Nat), p11 := (v.p : Nat) }), .agg (vcA v), pT b2 13, .agg (#[.int .u64 (u.r : Nat), .int .u32 (u.c : Nat), .int .u64 (u.b : Nat), .int .u16 (u.p : Nat)]), .bool false, .bool false]) (fun _ Lx w' => Ta ⟨w, ⟨T, b, some ⟨g, 0, none⟩, n, m, v2, v3, v4⟩, F⟩ [(b1, pdA { q with p8 := (v.r : Nat), p9 := (v.c : Nat), p10 := (v.b : Nat), p11 := (v.p : Nat) }, 61), (b2, poA { x with p13 := (u.r : Nat), p14 := (u.c : Nat), p15 := (u.b : Nat), p16 := (u.p : Nat) }, 73)] (t) w') (()) [] [(5, fun _ => ⟨b2, 10, none⟩)] [(1, fun _ => [(17, pT b1 5)]), (6, fun _ => [(22, iV x.p10)]), (9, fun _ => [(5, pT b1 0)]), (10, fun _ => [(26, .agg (pdA { q with p8 := (v.r : Nat), p9 := (v.c : Nat), p10 := (v.b : Nat), p11 := (v.p : Nat) }))]), (12, fun _ => [(28, pT b2 13)]), (13, fun _ => [(27, .agg (vcA v)), (29, .agg (#[.int .u64 (u.r : Nat), .int .u32 (u.c : Nat), .int .u64 (u.b : Nat), .int .u16 (u.p : Nat)]))])] [] (K3.out.drew) (fun _ Lx w' hw => ⟨fun _ => Ta.cell (i := 1) hw rfl (by rfl), trivial⟩) (fun _ _ _ _ _ h => h) ?_ ?_
    ·
     refine ⟨?_, ?_, ?_, ?_, ?_, ?_, trivial⟩ <;> (rintro _ Lx w' hw hL haft hdc ρ hc hf hG hs o ho; cases ho; try dsimp only [pT, iV, seen] at hw hs)
     ·
      exact sq (.bool true) (by have q0 : w'.cell? ⟨b1, 5, none⟩ = some (.bool q.p5) := Ta.cell (i := 0) hw rfl (by rfl); rw [H5.out] at q0; go_simp)
     ·
      exact sq (.bool false) (by have q := H4.out; go_simp)
     ·
      obtain ⟨e5, _⟩ := hs
      exact sq (.agg (pdA { q with p8 := (v.r : Nat), p9 := (v.c : Nat), p10 := (v.b : Nat), p11 := (v.p : Nat) })) (l_var 61 _ rfl _ e5 _ _ _ (Ta.at (i := 0) hw rfl) Tryd.underlying61 rfl (size_pd))
     ·
      exact sc (.agg (vcA v)) 78 #[.agg (pdA { q with p8 := (v.r : Nat), p9 := (v.c : Nat), p10 := (v.b : Nat), p11 := (v.p : Nat) })] (told_pd q v w') (by go_simp) (fun w2 hb => ⟨(), fun _ _ => rfl, rfl, hw.next hb⟩)
     ·
      obtain ⟨e28, _⟩ := hs
      exact sq (.agg (#[.int .u64 (u.r : Nat), .int .u32 (u.c : Nat), .int .u64 (u.b : Nat), .int .u16 (u.p : Nat)])) (l_partof 71 _ rfl _ 13 e28 _ _ ((#[.int .u64 (u.r : Nat), .int .u32 (u.c : Nat), .int .u64 (u.b : Nat), .int .u16 (u.p : Nat)]).toList) _ (Ta.at (i := 1) hw rfl) (part_of (by kernel_rfl)) Tryd.underlying71 rfl (sizeV))
     ·
      exact sq (.bool false) (by have q := CE.out; rw [HE.out] at q; go_simp)
    intro _ Lx w4 hw hall
    try dsimp only at hw
    simp only [pT, iV, List.toList_toArray, putsZ_some, putsZ_none, putsZ_nil, List.setIfInBounds_toArray, List.set_cons_zero, List.set_cons_succ]
    have K4 := Lib.hid hw
    clear hw hall
    obtain ⟨z, hz⟩ : ∃ z, z = agreeP (poU x u) := ⟨_, rfl⟩
    obtain ⟨op, hop⟩ : ∃ q, q = openedB (poU x u) z := ⟨_, rfl⟩
    have HZ := Lib.hid hz
    clear hz
    have HOP := Lib.hid hop
    clear hop
    go_upto_region 3 with fail
    refine lz (wz1 (.agg (poA { x with p13 := (u.r : Nat), p14 := (u.c : Nat), p15 := (u.b : Nat), p16 := (u.p : Nat) })) (h1 := by exact ta_all K4.out 1 rfl 73 _ rfl rfl Tryd.underlying73 rfl (size50)) (h := ?_))
    refine ta_call K4.out 46 #[.agg (poA { x with p13 := (u.r : Nat), p14 := (u.c : Nat), p15 := (u.b : Nat), p16 := (u.p : Nat) })] (.tuple #[.agg (poA z), .bool op]) (by rfl) (by go_simp) (by have q := agree_any (poU x u) w4; rw [← HZ.out, ← HOP.out] at q; exact q) (py (h := ?_))
    intro w5 K5
    refine wz3 (.tuple #[.agg (poA z), .bool op]) (.agg (poA z)) (.bool op) (h := ?_)
    refine ta_alloc K5.out 73 (nil21) rfl z50 (by rfl) (pz (h := ?_))
    intro b6 w6 K6
    refine ta_row K6.out 2 rfl 73 _ _ (poA z) rfl rfl rfl rfl (size50) (by rfl) (po_all _) (py (h := ?_))
    intro w7 K7
    refine wz1 (.bool op) (h := nz ?_)
    go_upto_region 4 with fail
    refine rk (fun (_ : Unit) => [pT b 0, pT b 0, pT b 0, pT b 6, .slice (some ⟨g, 0, none⟩) n m, iV (ip : Nat), .agg (poA z), pT g (ip * 21), undef]) (fun _ Lx w' => Ta ⟨w, ⟨T, b, some ⟨g, 0, none⟩, n, m, v2, v3, v4⟩, F⟩ [(b1, pdA { q with p8 := (v.r : Nat), p9 := (v.c : Nat), p10 := (v.b : Nat), p11 := (v.p : Nat) }, 61), (b2, poA { x with p13 := (u.r : Nat), p14 := (u.c : Nat), p15 := (u.b : Nat), p16 := (u.p : Nat) }, 73), (b6, poA z, 73)] (bif Lx 8 then t.setPo (t.s.po.set ip z) else t) w') (()) [] [] [(4, fun _ => [(40, pT b 6)]), (6, fun _ => [(7, pT b6 0)]), (7, fun _ => [(41, .slice (some ⟨g, 0, none⟩) n m), (42, iV (ip : Nat))]), (8, fun _ => [(43, .agg (poA z)), (44, pT g (ip * 21))])] [8] (K7.out.drew) (fun _ _ _ _ => trivial) (fun _ L1 L2 _ e h => by (try dsimp only at h ⊢); rw [← e 8 (by decide)]; exact h) ?_ ?_
    ·
     refine ⟨?_, ?_, ?_, ?_, trivial⟩ <;> (rintro _ Lx w' hw hL haft hdc ρ hc hf hG hs o ho; cases ho; try dsimp only [pT, iV, seen] at hw hs)
     ·
      have hn8 : Lx 8 = false := nup (fun cq => hdc 7 (hdc 8 cq 7 (by decide)) 4 (by decide)) hL
      have hwo : Ta ⟨w, ⟨T, b, some ⟨g, 0, none⟩, n, m, v2, v3, v4⟩, F⟩ [(b1, pdA { q with p8 := (v.r : Nat), p9 := (v.c : Nat), p10 := (v.b : Nat), p11 := (v.p : Nat) }, 61), (b2, poA { x with p13 := (u.r : Nat), p14 := (u.c : Nat), p15 := (u.b : Nat), p16 := (u.p : Nat) }, 73), (b6, poA z, 73)] (t) w' := by rw [hn8] at hw; exact hw
      exact sq (.slice (some ⟨g, 0, none⟩) n m) (by have q : w'.cell? ⟨b, 6, none⟩ = some (.slice (some ⟨g, 0, none⟩) n m) := hwo.acell 6 rfl; go_simp)
     ·
      obtain ⟨e7, _⟩ := hs
      have hn8 : Lx 8 = false := nup (fun cq => hdc 8 cq 6 (by decide)) hL
      have hwo : Ta ⟨w, ⟨T, b, some ⟨g, 0, none⟩, n, m, v2, v3, v4⟩, F⟩ [(b1, pdA { q with p8 := (v.r : Nat), p9 := (v.c : Nat), p10 := (v.b : Nat), p11 := (v.p : Nat) }, 61), (b2, poA { x with p13 := (u.r : Nat), p14 := (u.c : Nat), p15 := (u.b : Nat), p16 := (u.p : Nat) }, 73), (b6, poA z, 73)] (t) w' := by rw [hn8] at hw; exact hw
      exact sq (.agg (poA z)) (l_var 73 _ rfl _ e7 _ _ _ (Ta.at (i := 2) hwo rfl) Tryd.underlying73 rfl (size50))
     ·
      exact sq (pT g (ip * 21)) (by have q1 : ip < n := HLT.out; have q2 : n ≤ m := LEN.out.2.1; go_simp)
     ·
      obtain ⟨e43, e44, _⟩ := hs
      have hw0 : Ta ⟨w, ⟨T, b, some ⟨g, 0, none⟩, n, m, v2, v3, v4⟩, F⟩ [(b1, pdA { q with p8 := (v.r : Nat), p9 := (v.c : Nat), p10 := (v.b : Nat), p11 := (v.p : Nat) }, 61), (b2, poA { x with p13 := (u.r : Nat), p14 := (u.c : Nat), p15 := (u.b : Nat), p16 := (u.p : Nat) }, 73), (b6, poA z, 73)] (t) w' := by rw [hL] at hw; exact hw
      exact sm 73 _ _ rfl g (ip * 21) (poA z) e44 e43 (hw0.pthere rfl HLP.out) (po_info _) (po_all _) ⟨(), fun _ _ => rfl, rfl, hw0.pput rfl HLP.out⟩
    intro _ Lx w8 hw hall
    try dsimp only at hw
    simp only [pT, iV, List.toList_toArray, putsZ_some, putsZ_none, putsZ_nil, List.setIfInBounds_toArray, List.set_cons_zero, List.set_cons_succ]
    rw [hall 8 (by decide)] at hw
    simp only [cond_true] at hw
    have K8 := Lib.hid hw
    clear hw hall
    obtain ⟨t3, ht3⟩ : ∃ q, q = t.setPo (t.s.po.set ip z) := ⟨_, rfl⟩
    have KY := Lib.hid (show Ta ⟨w, ⟨T, b, some ⟨g, 0, none⟩, n, m, v2, v3, v4⟩, F⟩ [(b1, pdA { q with p8 := (v.r : Nat), p9 := (v.c : Nat), p10 := (v.b : Nat), p11 := (v.p : Nat) }, 61), (b2, poA { x with p13 := (u.r : Nat), p14 := (u.c : Nat), p15 := (u.b : Nat), p16 := (u.p : Nat) }, 73), (b6, poA z, 73)] t3 w8 from ht3 ▸ K8.out)
    have HT3 := Lib.hid ht3
    clear ht3
    go_upto_region 5 with fail
    refine lz (wz1 (.bool op) (h := nz ?_))
    rcases (show op = true ∨ op = false by cases op <;> simp) with ho | ho
    case inl =>
     subst ho
     have e1 : tF = changedM t3 ip := by rw [HTF.out]; unfold agreeM; rw [HX.out]; show (if _ then _ else _) = _; rw [if_pos ⟨H5.out, H4.out, (poU_eq x u v).2 HE.out⟩]; show (if _ then _ else _) = _; rw [← HZ.out, if_pos (HOP.out.symm), ← HT3.out]
     have HE1 := Lib.hid e1
     clear e1
     go_upto_region 6 with fail
     have HX3 := Lib.hid (show t3.s.po[ip]? = some z by rw [HT3.out]; exact List.getElem?_set_self HLP.out)
     refine lz (wz2 (pT b 0) (iV (ip : Nat)) (h := ?_))
     refine ta_act KY.out 59 #[.pointer (some ⟨b, 0, none⟩), .int .i64 (ip : Nat)] (changedM t3 ip) (by rfl) (by go_simp) (fun tv fv h => changed_any h HX3.out (by rw [HT3.out]; exact HFL.out)) (py (h := ?_))
     intro w9 K9
     refine wpList_nil ?_
     have KZ := Lib.hid (show Ta ⟨w, ⟨T, b, some ⟨g, 0, none⟩, n, m, v2, v3, v4⟩, F⟩ [(b1, pdA { q with p8 := (v.r : Nat), p9 := (v.c : Nat), p10 := (v.b : Nat), p11 := (v.p : Nat) }, 61), (b2, poA { x with p13 := (u.r : Nat), p14 := (u.c : Nat), p15 := (u.b : Nat), p16 := (u.p : Nat) }, 73), (b6, poA z, 73)] tF w9 from by rw [HE1.out]; exact K9.out)
     go_wp2_with fail
     go_end0
     exact ⟨rfl, by have q := KZ.out; rw [HF.out] at q; exact q.done⟩
    case inr =>
     subst ho
     have e1 : tF = t3 := by rw [HTF.out]; unfold agreeM; rw [HX.out]; show (if _ then _ else _) = _; rw [if_pos ⟨H5.out, H4.out, (poU_eq x u v).2 HE.out⟩]; show (if _ then _ else _) = _; rw [← HZ.out, if_neg (by rw [← HOP.out]; decide), ← HT3.out]
     have KZ := Lib.hid (show Ta ⟨w, ⟨T, b, some ⟨g, 0, none⟩, n, m, v2, v3, v4⟩, F⟩ [(b1, pdA { q with p8 := (v.r : Nat), p9 := (v.c : Nat), p10 := (v.b : Nat), p11 := (v.p : Nat) }, 61), (b2, poA { x with p13 := (u.r : Nat), p14 := (u.c : Nat), p15 := (u.b : Nat), p16 := (u.p : Nat) }, 73), (b6, poA z, 73)] tF w8 from e1 ▸ KY.out)
     clear e1
     go_wp2_with fail
     go_end0
     exact ⟨rfl, by have q := KZ.out; rw [HF.out] at q; exact q.done⟩
end
end Go.Proofs.YteeinlbhcdpnnaaDoor
