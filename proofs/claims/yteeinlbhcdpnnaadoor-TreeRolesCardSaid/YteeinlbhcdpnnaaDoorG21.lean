import Derived.Test.YteeinlbhcdpnnaaDoorG4
import Derived.Test.YteeinlbhcdpnnaaDoorG20
import Derived.Test.YteeinlbhcdpnnaaDoorG17
set_option linter.unusedSimpArgs false
set_option linter.unusedVariables false
namespace Go.Proofs.YteeinlbhcdpnnaaDoor
section
open Go.RowKit
attribute [local irreducible] wpQuiet wpList
set_option maxRecDepth 100000 in
set_option maxHeartbeats 8000000 in
theorem hearM_any (CH : ChooseOk) {T b n m : Nat} {a : Option Addr} {v2 v3 v4 tv fv : Value} {t : TS} {w : World} {ip : Nat} {x : Po} {u : Vc} (q : Pd) (v : Vc) (h : Tact w ⟨T, b, a, n, m, v2, v3, v4⟩ tv fv t) (hx : t.s.po[ip]? = some (poU x u)) (hok : ∀ (k : Nat) (y : Po), t.s.po[k]? = some y → okP y) (hv : v.ok) (hid : 0 ≤ t.s.cf.p0 ∧ t.s.cf.p0 < 18446744073709551616) (hfl : t.fl.length + n + (n + 1) * n ≤ 1000) (htl : t.told.length + n ≤ 1000) : Calls Tryd.prog 43 #[.pointer (some ⟨b, 0, none⟩), .int .i64 (ip : Nat), pdV (pdU q v)] w fun e w' => e = .returned (.tuple #[]) ∧ Done w ⟨T, b, a, n, m, v2, v3, v4⟩ tv fv (hearM t ip q v) w' := by
 have HCH := Lib.hid CH
 have HOK := Lib.hid hok
 have HVO := Lib.hid hv
 have HID := Lib.hid hid
 have HFL := Lib.hid hfl
 have HTL := Lib.hid htl
 clear hok hid hfl htl CH hv
 rw [show pdV (pdU q v) = .agg (pdA { q with p8 := (v.r : Nat), p9 := (v.c : Nat), p10 := (v.b : Nat), p11 := (v.p : Nat) }) from rfl]
 obtain ⟨tF, htF⟩ : ∃ z, z = hearM t ip q v := ⟨_, rfl⟩
 rw [← htF]
 have HTF := Lib.hid (htF.trans (hearM_some q v hx))
 clear htF
 have LEN := Lib.hid h.len
 obtain ⟨g, rfl⟩ : ∃ g, a = some ⟨g, 0, none⟩ := h.ptr hx
 have HX := Lib.hid hx
 have HLT := Lib.hid (show ip < n by have q := (List.getElem?_eq_some_iff.1 hx).1; have q2 := h.len.1; exact Nat.lt_of_lt_of_eq q q2.symm)
 clear hx
 obtain ⟨F, hF⟩ : ∃ F, F = foot ⟨T, b, some ⟨g, 0, none⟩, n, m, v2, v3, v4⟩ tv fv := ⟨_, rfl⟩
 have HF := Lib.hid hF
 have K := Lib.hid (show Ta ⟨w, ⟨T, b, some ⟨g, 0, none⟩, n, m, v2, v3, v4⟩, F⟩ [] t w from hF ▸ h.start)
 clear hF h
 go_enter Tryd.func43, Tryd.ntmps43
 go_upto_region 0 with fail
 have HLP := Lib.hid (show ip < t.s.po.length from (List.getElem?_eq_some_iff.1 HX.out).1)
 have HNN := Lib.hid (show 2 * n ≤ (n + 1) * n + n by have q5 : (n + 1) * n = n * n + n := Nat.succ_mul n n; rw [q5]; have := Nat.zero_le (n * n); omega)
 refine wp_region_lit ?_
 refine ta_box K.out 61 (.tmp 2) (pdA { q with p8 := (v.r : Nat), p9 := (v.c : Nat), p10 := (v.b : Nat), p11 := (v.p : Nat) }) rfl rfl (by rfl) (pz (h := ?_))
 intro b1 w1 K1
 refine wpList_nil ?_
 go_upto_region 1 with fail
 refine lz (wz6 (pT b 0) (pT b 0) (pT b 0) (pT b 6) (.slice (some ⟨g, 0, none⟩) n m) (iV (ip : Nat)) (h5 := by have q : w1.cell? ⟨b, 6, none⟩ = some (.slice (some ⟨g, 0, none⟩) n m) := K1.out.acell 6 rfl; go_simp) (h := wz2 (pT g (ip * 21)) (pT g (ip * 21 + 8)) (h1 := by have q1 : ip < n := HLT.out; have q2 : n ≤ m := LEN.out.2.1; go_simp) (h := ?_)))
 refine ta_pset K1.out (k := ip) rfl HX.out 4 _ _ 8 (.bool x.p8) (.bool false) { x with p8 := false, p13 := (u.r : Nat), p14 := (u.c : Nat), p15 := (u.b : Nat), p16 := (u.p : Nat) } rfl (by rfl) rfl rfl (by decide) rfl (fun W h1 h2 => by go_simp) rfl (py (h := ?_))
 intro w2 K2
 refine wpList_nil ?_
 obtain ⟨xp, hxp⟩ : ∃ z, z = plainP x := ⟨_, rfl⟩
 obtain ⟨t1, ht1⟩ : ∃ q, q = (t).setPo ((t).s.po.set ip { x with p8 := false, p13 := (u.r : Nat), p14 := (u.c : Nat), p15 := (u.b : Nat), p16 := (u.p : Nat) }) := ⟨_, rfl⟩
 have KY := Lib.hid (show Ta ⟨w, ⟨T, b, some ⟨g, 0, none⟩, n, m, v2, v3, v4⟩, F⟩ [(b1, pdA { q with p8 := (v.r : Nat), p9 := (v.c : Nat), p10 := (v.b : Nat), p11 := (v.p : Nat) }, 61)] t1 w2 from ht1 ▸ K2.out)
 have HT1 := Lib.hid (show t1 = t.setPo (t.s.po.set ip (poU xp u)) by rw [ht1, hxp]; rfl)
 rw [← hxp] at HTF
 rw [← HT1.out] at HTF
 clear ht1
 have HXP := Lib.hid hxp
 clear hxp
 have HX1 := Lib.hid (show t1.s.po[ip]? = some (poU xp u) by rw [HT1.out]; exact List.getElem?_set_self HLP.out)
 have HN1 := Lib.hid (show t1.s.po.length = n ∧ t1.s.cf = t.s.cf ∧ t1.fl = t.fl ∧ t1.told = t.told by rw [HT1.out]; exact ⟨(List.length_set).trans LEN.out.1.symm, rfl, rfl, rfl⟩)
 have HOK1 := Lib.hid (show ∀ (k : Nat) (y : Po), t1.s.po[k]? = some y → okP y from fun k y hy => by rw [HT1.out] at hy; rcases set_cases hy with ⟨-, e⟩ | e; exact (by rw [e, HXP.out]; exact okP_plain (HOK.out ip _ HX.out)); exact HOK.out k y e)
 go_upto_region 2 with fail
 by_cases h0 : q.p0 = 128
 case pos =>
  have H0 := Lib.hid h0
  clear h0
  refine lz (wz4 (pT b1 0) (.int .u8 q.p0) (.bool true) (.bool true) (h2 := by have q : w2.cell? ⟨b1, 0, none⟩ = some (.int .u8 q.p0) := KY.out.cell (i := 0) rfl (by rfl); go_simp) (h3 := by have q := H0.out; go_simp) (h := wk (h := wk (h := wz1 (.bool true) (h1 := by exact run_pick_yes (.tmp 17) (.const (.bool true)) (.tmp 19) _ rfl rfl rfl) (h := nz ?_)))))
  go_upto_region 3 with fail
  refine lz (wz2 (pT b 0) (iV (ip : Nat)) (h := ?_))
  refine ta_act KY.out 63 #[.pointer (some ⟨b, 0, none⟩), .int .i64 (ip : Nat)] (spreadM t1 ip) (by rfl) (by go_simp) (fun tv fv h => spread_any h HX1.out (by rw [HN1.out.2.2.1]; have q2 := HFL.out; have q3 := HNN.out; omega)) (py (h := ?_))
  intro w3 K3
  refine wpList_nil ?_
  go_upto_region 5 with fail
  refine lz (wz4 (pT b1 0) (.int .u8 q.p0) (.bool true) (.bool true) (h2 := by have q : w3.cell? ⟨b1, 0, none⟩ = some (.int .u8 q.p0) := K3.out.cell (i := 0) rfl (by rfl); go_simp) (h3 := by have q := H0.out; go_simp) (h := nz ?_))
  have KZ := Lib.hid (show Ta ⟨w, ⟨T, b, some ⟨g, 0, none⟩, n, m, v2, v3, v4⟩, F⟩ [(b1, pdA { q with p8 := (v.r : Nat), p9 := (v.c : Nat), p10 := (v.b : Nat), p11 := (v.p : Nat) }, 61)] tF w3 from by rw [show tF = spreadM t1 ip from by rw [HTF.out]; rw [if_pos H0.out, if_pos (Or.inl H0.out)]]; exact K3.out)
  go_wp2_with fail
  go_end0
  exact ⟨rfl, by have q := KZ.out; rw [HF.out] at q; exact q.done⟩
 case neg =>
  have H0 := Lib.hid h0
  clear h0
  rcases (show q.p1 = true ∨ q.p1 = false by cases q.p1 <;> simp) with hp1 | hp1
  case inl =>
   have HP1 := Lib.hid hp1
   clear hp1
   refine lz (wz6 (pT b1 0) (.int .u8 q.p0) (.bool false) (.bool false) (pT b1 1) (.bool true) (h2 := by have q : w2.cell? ⟨b1, 0, none⟩ = some (.int .u8 q.p0) := KY.out.cell (i := 0) rfl (by rfl); go_simp) (h3 := by have q := H0.out; go_simp) (h6 := by have q0 : w2.cell? ⟨b1, 1, none⟩ = some (.bool q.p1) := KY.out.cell (i := 0) rfl (by rfl); rw [HP1.out] at q0; go_simp) (h := wz1 (.bool true) (h1 := by exact run_pick_no (.tmp 17) (.const (.bool true)) (.tmp 19) _ rfl rfl rfl) (h := nz ?_)))
   go_upto_region 3 with fail
   refine lz (wz2 (pT b 0) (iV (ip : Nat)) (h := ?_))
   refine ta_act KY.out 63 #[.pointer (some ⟨b, 0, none⟩), .int .i64 (ip : Nat)] (spreadM t1 ip) (by rfl) (by go_simp) (fun tv fv h => spread_any h HX1.out (by rw [HN1.out.2.2.1]; have q2 := HFL.out; have q3 := HNN.out; omega)) (py (h := ?_))
   intro w3 K3
   refine wpList_nil ?_
   have HNS := spread_is t1 ip
   have HN2 := Lib.hid (show (spreadM t1 ip).s.po.length = n ∧ (spreadM t1 ip).s.cf = t.s.cf ∧ (spreadM t1 ip).fl.length ≤ t.fl.length + n ∧ (spreadM t1 ip).told = t.told by refine ⟨HNS.1.trans HN1.out.1, HNS.2.1.trans HN1.out.2.1, ?_, HNS.2.2.2.trans HN1.out.2.2.2⟩; have q := HNS.2.2.1; rw [HN1.out.2.2.1, HN1.out.1] at q; exact q)
   clear HNS
   obtain ⟨xs, hxs⟩ := spread_at (i := ip) (j := ip) HX1.out
   have HX2 := Lib.hid (show (spreadM t1 ip).s.po[ip]? = some (poU xs u) from hxs)
   clear hxs
   have HOK2 := Lib.hid (show ∀ (k : Nat) (y : Po), (spreadM t1 ip).s.po[k]? = some y → okP y from fun k y hy => spread_ok HOK1.out k y hy)
   have HOKT := Lib.hid (show ∀ (k : Nat) (y : Po), ((spreadM t1 ip).s.po.set ip (hearP xs u v (IntKind.i64.wrap q.p12) (spreadM t1 ip).s.cf))[k]? = some y → okP y from fun k y hy => by rcases set_cases hy with ⟨-, e⟩ | e; exact (by rw [e]; exact okP_hear (HOK2.out ip _ HX2.out) HVO.out); exact HOK2.out k y e)
   go_upto_region 5 with fail
   refine lz (wz4 (pT b1 0) (.int .u8 q.p0) (.bool false) (.bool false) (h2 := by have q : w3.cell? ⟨b1, 0, none⟩ = some (.int .u8 q.p0) := K3.out.cell (i := 0) rfl (by rfl); go_simp) (h3 := by have q := H0.out; go_simp) (h := nz ?_))
   go_upto_region 6 with fail
   by_cases h2 : q.p0 = 2
   case neg =>
    have H2 := Lib.hid h2
    clear h2
    refine lz (wz4 (pT b1 0) (.int .u8 q.p0) (.bool false) (.bool false) (h2 := by have q : w3.cell? ⟨b1, 0, none⟩ = some (.int .u8 q.p0) := K3.out.cell (i := 0) rfl (by rfl); go_simp) (h3 := by have q := H2.out; go_simp) (h := wk (h := wk (h := wk (h := wk (h := wk (h := wk (h := wk (h := wk (h := wz2 (.bool false) (.bool false) (h1 := by exact run_pick_no (.tmp 36) (.tmp 44) (.const (.bool false)) _ rfl rfl rfl) (h := nz ?_)))))))))))
    go_upto_region 4 with fail
    obtain ⟨t2, ht2⟩ : ∃ z, z = spreadM t1 ip := ⟨_, rfl⟩
    refine lz (wz3 (pT b 0) (iV (ip : Nat)) (.agg (pdA { q with p8 := (v.r : Nat), p9 := (v.c : Nat), p10 := (v.b : Nat), p11 := (v.p : Nat) })) (h3 := by exact ta_all K3.out 0 rfl 61 _ rfl rfl Tryd.underlying61 rfl (size_pd)) (h := ?_))
    refine ta_act K3.out 65 #[.pointer (some ⟨b, 0, none⟩), .int .i64 (ip : Nat), .agg (pdA { q with p8 := (v.r : Nat), p9 := (v.c : Nat), p10 := (v.b : Nat), p11 := (v.p : Nat) })] (takeM (spreadM t1 ip) ip q v) (by rfl) (by go_simp) (fun tv fv h => takeM_any HCH.out q v h HX2.out HOKT.out (by rw [HN2.out.2.1]; exact HID.out) (by have q1 := HN2.out.2.2.1; have q2 := HFL.out; omega) (by rw [HN2.out.2.2.2]; exact HTL.out)) (py (h := ?_))
    intro w4 K4
    refine wpList_nil ?_
    have KZ := Lib.hid (show Ta ⟨w, ⟨T, b, some ⟨g, 0, none⟩, n, m, v2, v3, v4⟩, F⟩ [(b1, pdA { q with p8 := (v.r : Nat), p9 := (v.c : Nat), p10 := (v.b : Nat), p11 := (v.p : Nat) }, 61)] tF w4 from by rw [show tF = takeM (spreadM t1 ip) ip q v from by rw [HTF.out]; rw [if_neg H0.out, if_pos (Or.inr HP1.out), if_neg (fun c => H2.out c.1)]]; exact K4.out)
    go_wp2_with fail
    go_end0
    exact ⟨rfl, by have q := KZ.out; rw [HF.out] at q; exact q.done⟩
   case pos =>
    have H2 := Lib.hid h2
    clear h2
    by_cases h7 : q.p7 = 2
    case pos =>
     have H7 := Lib.hid h7
     clear h7
     refine lz (wz6 (pT b1 0) (.int .u8 q.p0) (.bool true) (.bool true) (pT b1 7) (.int .u8 q.p7) (h2 := by have q : w3.cell? ⟨b1, 0, none⟩ = some (.int .u8 q.p0) := K3.out.cell (i := 0) rfl (by rfl); go_simp) (h3 := by have q := H2.out; go_simp) (h6 := by have q : w3.cell? ⟨b1, 7, none⟩ = some (.int .u8 q.p7) := K3.out.cell (i := 0) rfl (by rfl); go_simp) (h := wz2 (.bool true) (.bool true) (h1 := by have q := H7.out; go_simp) (h := wk (h := wk (h := wk (h := wz3 (.bool true) (.bool true) (.bool true) (h1 := by exact run_pick_yes (.tmp 40) (.const (.bool true)) (.tmp 43) _ rfl rfl rfl) (h2 := by exact run_pick_yes (.tmp 36) (.tmp 44) (.const (.bool false)) _ rfl rfl rfl) (h := nz ?_)))))))
     go_upto_region 7 with fail
     refine lz (wz3 (pT b 0) (iV (ip : Nat)) (.agg (pdA { q with p8 := (v.r : Nat), p9 := (v.c : Nat), p10 := (v.b : Nat), p11 := (v.p : Nat) })) (h3 := by exact ta_all K3.out 0 rfl 61 _ rfl rfl Tryd.underlying61 rfl (size_pd)) (h := ?_))
     refine ta_act K3.out 64 #[.pointer (some ⟨b, 0, none⟩), .int .i64 (ip : Nat), .agg (pdA { q with p8 := (v.r : Nat), p9 := (v.c : Nat), p10 := (v.b : Nat), p11 := (v.p : Nat) })] (agreeM (spreadM t1 ip) ip q v) (by rfl) (by go_simp) (fun tv fv h => agreeM_any q v h HX2.out (by have q1 := HN2.out.2.2.1; have q2 := HFL.out; have q3 := HNN.out; omega)) (py (h := ?_))
     intro w4 K4
     refine wpList_nil ?_
     have KZ := Lib.hid (show Ta ⟨w, ⟨T, b, some ⟨g, 0, none⟩, n, m, v2, v3, v4⟩, F⟩ [(b1, pdA { q with p8 := (v.r : Nat), p9 := (v.c : Nat), p10 := (v.b : Nat), p11 := (v.p : Nat) }, 61)] tF w4 from by rw [show tF = agreeM (spreadM t1 ip) ip q v from by rw [HTF.out]; rw [if_neg H0.out, if_pos (Or.inr HP1.out), if_pos (⟨H2.out, Or.inl H7.out⟩)]]; exact K4.out)
     go_wp2_with fail
     go_end0
     exact ⟨rfl, by have q := KZ.out; rw [HF.out] at q; exact q.done⟩
    case neg =>
     have H7 := Lib.hid h7
     clear h7
     by_cases h8 : q.p7 = 1
     case pos =>
      have H8 := Lib.hid h8
      clear h8
      refine lz (wz6 (pT b1 0) (.int .u8 q.p0) (.bool true) (.bool true) (pT b1 7) (.int .u8 q.p7) (h2 := by have q : w3.cell? ⟨b1, 0, none⟩ = some (.int .u8 q.p0) := K3.out.cell (i := 0) rfl (by rfl); go_simp) (h3 := by have q := H2.out; go_simp) (h6 := by have q : w3.cell? ⟨b1, 7, none⟩ = some (.int .u8 q.p7) := K3.out.cell (i := 0) rfl (by rfl); go_simp) (h := wz6 (.bool false) (.bool false) (pT b1 7) (.int .u8 q.p7) (.bool true) (.bool true) (h1 := by have q := H7.out; go_simp) (h4 := by have q : w3.cell? ⟨b1, 7, none⟩ = some (.int .u8 q.p7) := K3.out.cell (i := 0) rfl (by rfl); go_simp) (h5 := by have q := H8.out; go_simp) (h6 := by exact run_pick_no (.tmp 40) (.const (.bool true)) (.tmp 43) _ rfl rfl rfl) (h := wz2 (.bool true) (.bool true) (h1 := by exact run_pick_yes (.tmp 36) (.tmp 44) (.const (.bool false)) _ rfl rfl rfl) (h := nz ?_))))
      go_upto_region 7 with fail
      refine lz (wz3 (pT b 0) (iV (ip : Nat)) (.agg (pdA { q with p8 := (v.r : Nat), p9 := (v.c : Nat), p10 := (v.b : Nat), p11 := (v.p : Nat) })) (h3 := by exact ta_all K3.out 0 rfl 61 _ rfl rfl Tryd.underlying61 rfl (size_pd)) (h := ?_))
      refine ta_act K3.out 64 #[.pointer (some ⟨b, 0, none⟩), .int .i64 (ip : Nat), .agg (pdA { q with p8 := (v.r : Nat), p9 := (v.c : Nat), p10 := (v.b : Nat), p11 := (v.p : Nat) })] (agreeM (spreadM t1 ip) ip q v) (by rfl) (by go_simp) (fun tv fv h => agreeM_any q v h HX2.out (by have q1 := HN2.out.2.2.1; have q2 := HFL.out; have q3 := HNN.out; omega)) (py (h := ?_))
      intro w4 K4
      refine wpList_nil ?_
      have KZ := Lib.hid (show Ta ⟨w, ⟨T, b, some ⟨g, 0, none⟩, n, m, v2, v3, v4⟩, F⟩ [(b1, pdA { q with p8 := (v.r : Nat), p9 := (v.c : Nat), p10 := (v.b : Nat), p11 := (v.p : Nat) }, 61)] tF w4 from by rw [show tF = agreeM (spreadM t1 ip) ip q v from by rw [HTF.out]; rw [if_neg H0.out, if_pos (Or.inr HP1.out), if_pos (⟨H2.out, Or.inr H8.out⟩)]]; exact K4.out)
      go_wp2_with fail
      go_end0
      exact ⟨rfl, by have q := KZ.out; rw [HF.out] at q; exact q.done⟩
     case neg =>
      have H8 := Lib.hid h8
      clear h8
      refine lz (wz6 (pT b1 0) (.int .u8 q.p0) (.bool true) (.bool true) (pT b1 7) (.int .u8 q.p7) (h2 := by have q : w3.cell? ⟨b1, 0, none⟩ = some (.int .u8 q.p0) := K3.out.cell (i := 0) rfl (by rfl); go_simp) (h3 := by have q := H2.out; go_simp) (h6 := by have q : w3.cell? ⟨b1, 7, none⟩ = some (.int .u8 q.p7) := K3.out.cell (i := 0) rfl (by rfl); go_simp) (h := wz6 (.bool false) (.bool false) (pT b1 7) (.int .u8 q.p7) (.bool false) (.bool false) (h1 := by have q := H7.out; go_simp) (h4 := by have q : w3.cell? ⟨b1, 7, none⟩ = some (.int .u8 q.p7) := K3.out.cell (i := 0) rfl (by rfl); go_simp) (h5 := by have q := H8.out; go_simp) (h6 := by exact run_pick_no (.tmp 40) (.const (.bool true)) (.tmp 43) _ rfl rfl rfl) (h := wz2 (.bool false) (.bool false) (h1 := by exact run_pick_yes (.tmp 36) (.tmp 44) (.const (.bool false)) _ rfl rfl rfl) (h := nz ?_))))
      go_upto_region 4 with fail
      obtain ⟨t2, ht2⟩ : ∃ z, z = spreadM t1 ip := ⟨_, rfl⟩
      refine lz (wz3 (pT b 0) (iV (ip : Nat)) (.agg (pdA { q with p8 := (v.r : Nat), p9 := (v.c : Nat), p10 := (v.b : Nat), p11 := (v.p : Nat) })) (h3 := by exact ta_all K3.out 0 rfl 61 _ rfl rfl Tryd.underlying61 rfl (size_pd)) (h := ?_))
      refine ta_act K3.out 65 #[.pointer (some ⟨b, 0, none⟩), .int .i64 (ip : Nat), .agg (pdA { q with p8 := (v.r : Nat), p9 := (v.c : Nat), p10 := (v.b : Nat), p11 := (v.p : Nat) })] (takeM (spreadM t1 ip) ip q v) (by rfl) (by go_simp) (fun tv fv h => takeM_any HCH.out q v h HX2.out HOKT.out (by rw [HN2.out.2.1]; exact HID.out) (by have q1 := HN2.out.2.2.1; have q2 := HFL.out; omega) (by rw [HN2.out.2.2.2]; exact HTL.out)) (py (h := ?_))
      intro w4 K4
      refine wpList_nil ?_
      have KZ := Lib.hid (show Ta ⟨w, ⟨T, b, some ⟨g, 0, none⟩, n, m, v2, v3, v4⟩, F⟩ [(b1, pdA { q with p8 := (v.r : Nat), p9 := (v.c : Nat), p10 := (v.b : Nat), p11 := (v.p : Nat) }, 61)] tF w4 from by rw [show tF = takeM (spreadM t1 ip) ip q v from by rw [HTF.out]; rw [if_neg H0.out, if_pos (Or.inr HP1.out), if_neg (fun c => c.2.elim H7.out H8.out)]]; exact K4.out)
      go_wp2_with fail
      go_end0
      exact ⟨rfl, by have q := KZ.out; rw [HF.out] at q; exact q.done⟩
  case inr =>
   have HP1 := Lib.hid hp1
   clear hp1
   refine lz (wz6 (pT b1 0) (.int .u8 q.p0) (.bool false) (.bool false) (pT b1 1) (.bool false) (h2 := by have q : w2.cell? ⟨b1, 0, none⟩ = some (.int .u8 q.p0) := KY.out.cell (i := 0) rfl (by rfl); go_simp) (h3 := by have q := H0.out; go_simp) (h6 := by have q0 : w2.cell? ⟨b1, 1, none⟩ = some (.bool q.p1) := KY.out.cell (i := 0) rfl (by rfl); rw [HP1.out] at q0; go_simp) (h := wz1 (.bool false) (h1 := by exact run_pick_no (.tmp 17) (.const (.bool true)) (.tmp 19) _ rfl rfl rfl) (h := nz ?_)))
   have HN2 := Lib.hid (show t1.s.po.length = n ∧ t1.s.cf = t.s.cf ∧ t1.fl.length ≤ t.fl.length + n ∧ t1.told = t.told from ⟨HN1.out.1, HN1.out.2.1, by rw [HN1.out.2.2.1]; omega, HN1.out.2.2.2⟩)
   obtain ⟨xs, hxs⟩ : ∃ z, z = xp := ⟨_, rfl⟩
   have HX2 := Lib.hid (show t1.s.po[ip]? = some (poU xs u) by rw [hxs]; exact HX1.out)
   clear hxs
   have HOK2 := HOK1
   have HOKT := Lib.hid (show ∀ (k : Nat) (y : Po), (t1.s.po.set ip (hearP xs u v (IntKind.i64.wrap q.p12) t1.s.cf))[k]? = some y → okP y from fun k y hy => by rcases set_cases hy with ⟨-, e⟩ | e; exact (by rw [e]; exact okP_hear (HOK2.out ip _ HX2.out) HVO.out); exact HOK2.out k y e)
   go_upto_region 5 with fail
   refine lz (wz4 (pT b1 0) (.int .u8 q.p0) (.bool false) (.bool false) (h2 := by have q : w2.cell? ⟨b1, 0, none⟩ = some (.int .u8 q.p0) := KY.out.cell (i := 0) rfl (by rfl); go_simp) (h3 := by have q := H0.out; go_simp) (h := nz ?_))
   go_upto_region 6 with fail
   by_cases h2 : q.p0 = 2
   case neg =>
    have H2 := Lib.hid h2
    clear h2
    refine lz (wz4 (pT b1 0) (.int .u8 q.p0) (.bool false) (.bool false) (h2 := by have q : w2.cell? ⟨b1, 0, none⟩ = some (.int .u8 q.p0) := KY.out.cell (i := 0) rfl (by rfl); go_simp) (h3 := by have q := H2.out; go_simp) (h := wk (h := wk (h := wk (h := wk (h := wk (h := wk (h := wk (h := wk (h := wz2 (.bool false) (.bool false) (h1 := by exact run_pick_no (.tmp 36) (.tmp 44) (.const (.bool false)) _ rfl rfl rfl) (h := nz ?_)))))))))))
    go_upto_region 4 with fail
    refine lz (wz3 (pT b 0) (iV (ip : Nat)) (.agg (pdA { q with p8 := (v.r : Nat), p9 := (v.c : Nat), p10 := (v.b : Nat), p11 := (v.p : Nat) })) (h3 := by exact ta_all KY.out 0 rfl 61 _ rfl rfl Tryd.underlying61 rfl (size_pd)) (h := ?_))
    refine ta_act KY.out 65 #[.pointer (some ⟨b, 0, none⟩), .int .i64 (ip : Nat), .agg (pdA { q with p8 := (v.r : Nat), p9 := (v.c : Nat), p10 := (v.b : Nat), p11 := (v.p : Nat) })] (takeM t1 ip q v) (by rfl) (by go_simp) (fun tv fv h => takeM_any HCH.out q v h HX2.out HOKT.out (by rw [HN2.out.2.1]; exact HID.out) (by have q1 := HN2.out.2.2.1; have q2 := HFL.out; omega) (by rw [HN2.out.2.2.2]; exact HTL.out)) (py (h := ?_))
    intro w3 K3
    refine wpList_nil ?_
    have KZ := Lib.hid (show Ta ⟨w, ⟨T, b, some ⟨g, 0, none⟩, n, m, v2, v3, v4⟩, F⟩ [(b1, pdA { q with p8 := (v.r : Nat), p9 := (v.c : Nat), p10 := (v.b : Nat), p11 := (v.p : Nat) }, 61)] tF w3 from by rw [show tF = takeM t1 ip q v from by rw [HTF.out]; rw [if_neg H0.out, if_neg (fun c => c.elim H0.out (fun e => by rw [HP1.out] at e; exact Bool.noConfusion e)), if_neg (fun c => H2.out c.1)]]; exact K3.out)
    go_wp2_with fail
    go_end0
    exact ⟨rfl, by have q := KZ.out; rw [HF.out] at q; exact q.done⟩
   case pos =>
    have H2 := Lib.hid h2
    clear h2
    by_cases h7 : q.p7 = 2
    case pos =>
     have H7 := Lib.hid h7
     clear h7
     refine lz (wz6 (pT b1 0) (.int .u8 q.p0) (.bool true) (.bool true) (pT b1 7) (.int .u8 q.p7) (h2 := by have q : w2.cell? ⟨b1, 0, none⟩ = some (.int .u8 q.p0) := KY.out.cell (i := 0) rfl (by rfl); go_simp) (h3 := by have q := H2.out; go_simp) (h6 := by have q : w2.cell? ⟨b1, 7, none⟩ = some (.int .u8 q.p7) := KY.out.cell (i := 0) rfl (by rfl); go_simp) (h := wz2 (.bool true) (.bool true) (h1 := by have q := H7.out; go_simp) (h := wk (h := wk (h := wk (h := wz3 (.bool true) (.bool true) (.bool true) (h1 := by exact run_pick_yes (.tmp 40) (.const (.bool true)) (.tmp 43) _ rfl rfl rfl) (h2 := by exact run_pick_yes (.tmp 36) (.tmp 44) (.const (.bool false)) _ rfl rfl rfl) (h := nz ?_)))))))
     go_upto_region 7 with fail
     refine lz (wz3 (pT b 0) (iV (ip : Nat)) (.agg (pdA { q with p8 := (v.r : Nat), p9 := (v.c : Nat), p10 := (v.b : Nat), p11 := (v.p : Nat) })) (h3 := by exact ta_all KY.out 0 rfl 61 _ rfl rfl Tryd.underlying61 rfl (size_pd)) (h := ?_))
     refine ta_act KY.out 64 #[.pointer (some ⟨b, 0, none⟩), .int .i64 (ip : Nat), .agg (pdA { q with p8 := (v.r : Nat), p9 := (v.c : Nat), p10 := (v.b : Nat), p11 := (v.p : Nat) })] (agreeM t1 ip q v) (by rfl) (by go_simp) (fun tv fv h => agreeM_any q v h HX2.out (by have q1 := HN2.out.2.2.1; have q2 := HFL.out; have q3 := HNN.out; omega)) (py (h := ?_))
     intro w3 K3
     refine wpList_nil ?_
     have KZ := Lib.hid (show Ta ⟨w, ⟨T, b, some ⟨g, 0, none⟩, n, m, v2, v3, v4⟩, F⟩ [(b1, pdA { q with p8 := (v.r : Nat), p9 := (v.c : Nat), p10 := (v.b : Nat), p11 := (v.p : Nat) }, 61)] tF w3 from by rw [show tF = agreeM t1 ip q v from by rw [HTF.out]; rw [if_neg H0.out, if_neg (fun c => c.elim H0.out (fun e => by rw [HP1.out] at e; exact Bool.noConfusion e)), if_pos (⟨H2.out, Or.inl H7.out⟩)]]; exact K3.out)
     go_wp2_with fail
     go_end0
     exact ⟨rfl, by have q := KZ.out; rw [HF.out] at q; exact q.done⟩
    case neg =>
     have H7 := Lib.hid h7
     clear h7
     by_cases h8 : q.p7 = 1
     case pos =>
      have H8 := Lib.hid h8
      clear h8
      refine lz (wz6 (pT b1 0) (.int .u8 q.p0) (.bool true) (.bool true) (pT b1 7) (.int .u8 q.p7) (h2 := by have q : w2.cell? ⟨b1, 0, none⟩ = some (.int .u8 q.p0) := KY.out.cell (i := 0) rfl (by rfl); go_simp) (h3 := by have q := H2.out; go_simp) (h6 := by have q : w2.cell? ⟨b1, 7, none⟩ = some (.int .u8 q.p7) := KY.out.cell (i := 0) rfl (by rfl); go_simp) (h := wz6 (.bool false) (.bool false) (pT b1 7) (.int .u8 q.p7) (.bool true) (.bool true) (h1 := by have q := H7.out; go_simp) (h4 := by have q : w2.cell? ⟨b1, 7, none⟩ = some (.int .u8 q.p7) := KY.out.cell (i := 0) rfl (by rfl); go_simp) (h5 := by have q := H8.out; go_simp) (h6 := by exact run_pick_no (.tmp 40) (.const (.bool true)) (.tmp 43) _ rfl rfl rfl) (h := wz2 (.bool true) (.bool true) (h1 := by exact run_pick_yes (.tmp 36) (.tmp 44) (.const (.bool false)) _ rfl rfl rfl) (h := nz ?_))))
      go_upto_region 7 with fail
      refine lz (wz3 (pT b 0) (iV (ip : Nat)) (.agg (pdA { q with p8 := (v.r : Nat), p9 := (v.c : Nat), p10 := (v.b : Nat), p11 := (v.p : Nat) })) (h3 := by exact ta_all KY.out 0 rfl 61 _ rfl rfl Tryd.underlying61 rfl (size_pd)) (h := ?_))
      refine ta_act KY.out 64 #[.pointer (some ⟨b, 0, none⟩), .int .i64 (ip : Nat), .agg (pdA { q with p8 := (v.r : Nat), p9 := (v.c : Nat), p10 := (v.b : Nat), p11 := (v.p : Nat) })] (agreeM t1 ip q v) (by rfl) (by go_simp) (fun tv fv h => agreeM_any q v h HX2.out (by have q1 := HN2.out.2.2.1; have q2 := HFL.out; have q3 := HNN.out; omega)) (py (h := ?_))
      intro w3 K3
      refine wpList_nil ?_
      have KZ := Lib.hid (show Ta ⟨w, ⟨T, b, some ⟨g, 0, none⟩, n, m, v2, v3, v4⟩, F⟩ [(b1, pdA { q with p8 := (v.r : Nat), p9 := (v.c : Nat), p10 := (v.b : Nat), p11 := (v.p : Nat) }, 61)] tF w3 from by rw [show tF = agreeM t1 ip q v from by rw [HTF.out]; rw [if_neg H0.out, if_neg (fun c => c.elim H0.out (fun e => by rw [HP1.out] at e; exact Bool.noConfusion e)), if_pos (⟨H2.out, Or.inr H8.out⟩)]]; exact K3.out)
      go_wp2_with fail
      go_end0
      exact ⟨rfl, by have q := KZ.out; rw [HF.out] at q; exact q.done⟩
     case neg =>
      have H8 := Lib.hid h8
      clear h8
      refine lz (wz6 (pT b1 0) (.int .u8 q.p0) (.bool true) (.bool true) (pT b1 7) (.int .u8 q.p7) (h2 := by have q : w2.cell? ⟨b1, 0, none⟩ = some (.int .u8 q.p0) := KY.out.cell (i := 0) rfl (by rfl); go_simp) (h3 := by have q := H2.out; go_simp) (h6 := by have q : w2.cell? ⟨b1, 7, none⟩ = some (.int .u8 q.p7) := KY.out.cell (i := 0) rfl (by rfl); go_simp) (h := wz6 (.bool false) (.bool false) (pT b1 7) (.int .u8 q.p7) (.bool false) (.bool false) (h1 := by have q := H7.out; go_simp) (h4 := by have q : w2.cell? ⟨b1, 7, none⟩ = some (.int .u8 q.p7) := KY.out.cell (i := 0) rfl (by rfl); go_simp) (h5 := by have q := H8.out; go_simp) (h6 := by exact run_pick_no (.tmp 40) (.const (.bool true)) (.tmp 43) _ rfl rfl rfl) (h := wz2 (.bool false) (.bool false) (h1 := by exact run_pick_yes (.tmp 36) (.tmp 44) (.const (.bool false)) _ rfl rfl rfl) (h := nz ?_))))
      go_upto_region 4 with fail
      refine lz (wz3 (pT b 0) (iV (ip : Nat)) (.agg (pdA { q with p8 := (v.r : Nat), p9 := (v.c : Nat), p10 := (v.b : Nat), p11 := (v.p : Nat) })) (h3 := by exact ta_all KY.out 0 rfl 61 _ rfl rfl Tryd.underlying61 rfl (size_pd)) (h := ?_))
      refine ta_act KY.out 65 #[.pointer (some ⟨b, 0, none⟩), .int .i64 (ip : Nat), .agg (pdA { q with p8 := (v.r : Nat), p9 := (v.c : Nat), p10 := (v.b : Nat), p11 := (v.p : Nat) })] (takeM t1 ip q v) (by rfl) (by go_simp) (fun tv fv h => takeM_any HCH.out q v h HX2.out HOKT.out (by rw [HN2.out.2.1]; exact HID.out) (by have q1 := HN2.out.2.2.1; have q2 := HFL.out; omega) (by rw [HN2.out.2.2.2]; exact HTL.out)) (py (h := ?_))
      intro w3 K3
      refine wpList_nil ?_
      have KZ := Lib.hid (show Ta ⟨w, ⟨T, b, some ⟨g, 0, none⟩, n, m, v2, v3, v4⟩, F⟩ [(b1, pdA { q with p8 := (v.r : Nat), p9 := (v.c : Nat), p10 := (v.b : Nat), p11 := (v.p : Nat) }, 61)] tF w3 from by rw [show tF = takeM t1 ip q v from by rw [HTF.out]; rw [if_neg H0.out, if_neg (fun c => c.elim H0.out (fun e => by rw [HP1.out] at e; exact Bool.noConfusion e)), if_neg (fun c => c.2.elim H7.out H8.out)]]; exact K3.out)
      go_wp2_with fail
      go_end0
      exact ⟨rfl, by have q := KZ.out; rw [HF.out] at q; exact q.done⟩
end
section
open Go.RowKit
attribute [local irreducible] wpQuiet wpList
theorem Begun.next {w w' w'' : World} {s : St} {c : Cs} (h : Begun w s c w') (hb : Below w'.heap.size w' w'') : Begun w s c w'' :=
 ⟨h.act.fr (F := fun _ => False) (Mv.of_below hb) (fun _ _ e => e) (fun e => e), h.own.next hb, h.apart, h.below.trans (hb.mono h.below.size), h.last, h.new⟩
theorem tellM_rest (t : TS) (i : Nat) : (tellM t i).rest = t.rest := congrArg (fun z : St => (z.vl, z.st, z.fd, z.c)) (tellM_is t i).1
theorem sendM_rest (t : TS) (i : Nat) (q : Pd) : (sendM t i q).rest = t.rest := by
 unfold sendM
 split
 ·
  rfl
 ·
  rfl
theorem answerM_rest (t : TS) (i : Nat) : (answerM t i).rest = t.rest := by
 unfold answerM
 split
 ·
  split
  ·
   exact (sendM_rest _ _ _).trans (mapTo_rest _ _ _)
  ·
   rfl
 ·
  rfl
theorem takeM_rest (t : TS) (i : Nat) (q : Pd) (v : Vc) : (takeM t i q v).rest = t.rest := by
 unfold takeM
 cases c : t.s.po[i]? with
 | none => rfl
 | some y =>
  show (if hearN y (vecN y) v (IntKind.i64.wrap q.p12) t.s.cf = 1 then (if (hearP y (vecN y) v (IntKind.i64.wrap q.p12) t.s.cf).p10 = 4 then tellM (t.setPo (t.s.po.set i (hearP y (vecN y) v (IntKind.i64.wrap q.p12) t.s.cf))) i else t.setPo (t.s.po.set i (hearP y (vecN y) v (IntKind.i64.wrap q.p12) t.s.cf)))
   else if hearN y (vecN y) v (IntKind.i64.wrap q.p12) t.s.cf = 2 ∨ hearN y (vecN y) v (IntKind.i64.wrap q.p12) t.s.cf = 3 then (if q.p2 = true then answerM (chooseM (t.setPo (t.s.po.set i (hearP y (vecN y) v (IntKind.i64.wrap q.p12) t.s.cf)))) i else chooseM (t.setPo (t.s.po.set i (hearP y (vecN y) v (IntKind.i64.wrap q.p12) t.s.cf))))
   else t.setPo (t.s.po.set i (hearP y (vecN y) v (IntKind.i64.wrap q.p12) t.s.cf))).rest = _
  split
  ·
   split
   ·
    exact tellM_rest _ _
   ·
    rfl
  ·
   split
   ·
    split
    ·
     exact (answerM_rest _ _).trans (chooseM_rest _)
    ·
     exact chooseM_rest _
   ·
    rfl
theorem sprTo_rest (h : Int) (i : Nat) (t : TS) : ∀ k, (sprTo h i t k).rest = t.rest
 | 0 => rfl
 | k + 1 => by
  have a := sprTo_rest h i t k
  show (sprStep h i (sprTo h i t k) k).rest = _
  unfold sprStep
  split
  ·
   split
   ·
    exact a
   ·
    exact a
  ·
   exact a
theorem agreeM_rest (t : TS) (i : Nat) (q : Pd) (v : Vc) : (agreeM t i q v).rest = t.rest := by
 unfold agreeM
 split
 ·
  split
  ·
   split
   ·
    exact changedM_rest _ _
   ·
    rfl
  ·
   rfl
 ·
  rfl
theorem hearM_rest {t : TS} {i : Nat} {x : Po} {u : Vc} (q : Pd) (v : Vc) (h : t.s.po[i]? = some (poU x u)) : (hearM t i q v).rest = t.rest := by
 rw [hearM_some q v h]
 have e : (spreadM (t.setPo (t.s.po.set i (poU (plainP x) u))) i).rest = t.rest := sprTo_rest _ _ _ _
 split
 ·
  split
  ·
   exact e
  ·
   rfl
 ·
  split
  ·
   split
   ·
    exact (agreeM_rest _ _ _ _).trans e
   ·
    exact (takeM_rest _ _ _ _).trans e
  ·
   split
   ·
    exact agreeM_rest _ _ _ _
   ·
    exact takeM_rest _ _ _ _
def hearC (s : St) (p : Int) (q : Pd) (v : Vc) : TS := if 1 ≤ p ∧ p ≤ (s.po.length : Int) then (match s.po[(p - 1).toNat]? with
 | some x => if onP x = true then hearM ⟨s, [], []⟩ (p - 1).toNat q v else ⟨s, [], []⟩
 | none => ⟨s, [], []⟩) else ⟨s, [], []⟩
def switchC (s : St) (p : Int) (up ad : Bool) : TS := if 1 ≤ p ∧ p ≤ (s.po.length : Int) then (match s.po[(p - 1).toNat]? with
 | some x => chooseM (if onP x = true ∧ onP (switchP x up ad s.cf.p3) = false then ((⟨s, [], []⟩ : TS).setPo (s.po.set (p - 1).toNat (switchP x up ad s.cf.p3))).flush p else (⟨s, [], []⟩ : TS).setPo (s.po.set (p - 1).toNat (switchP x up ad s.cf.p3)))
 | none => ⟨s, [], []⟩) else ⟨s, [], []⟩
theorem on_is3 (x : Po) (b : Bool) (h : onP x = b) (w : World) : Calls Tryd.prog 20 #[poV x] w fun e w' => e = .returned (.bool b) ∧ Below w.heap.size w w' := h ▸ on_any x w
end
section
open Go.RowKit
attribute [local irreducible] wpQuiet wpList
set_option maxRecDepth 100000 in
set_option maxHeartbeats 8000000 in
theorem hear_call {w : World} {B : Nat} {s : St} {p1 p2 p3 p4 : Value} (p : Int) (q : Pd) (v : Vc) (hs : OwS w B s p1 p2 p3 p4) (hr : RolesAt w) (hn : s.po.length ≤ 16) (hid : 0 ≤ s.cf.p0 ∧ s.cf.p0 < 18446744073709551616) (hok : ∀ (k : Nat) (x : Po), s.po[k]? = some x → okP x) (hv : v.ok) (hp : -1000000 ≤ p ∧ p ≤ 1000000) : Calls Tryd.prog 17 #[stV s p1 p2 p3 p4, .int .i64 p, pdV (pdU q v)] w fun e w' =>
 ∃ u1 u2 u3 u4 tv fv, e = .returned (.tuple #[stV (hearC s p q v).s u1 u2 u3 u4, .agg #[tv, fv]]) ∧ Left w (hearC s p q v) u1 u2 u3 u4 tv fv w' := by
 rw [show pdV (pdU q v) = .agg (pdA { q with p8 := (v.r : Nat), p9 := (v.c : Nat), p10 := (v.b : Nat), p11 := (v.p : Nat) }) from rfl]
 have HVO := Lib.hid hv
 clear hv
 have HS := Lib.hid hs
 have HR := Lib.hid hr
 have HNN := Lib.hid hn
 have HID := Lib.hid hid
 have HOK := Lib.hid hok
 have HSP := Lib.hid (show (stA s p1 p2 p3 p4).all (·.oneCell') = true from st_one hs)
 obtain ⟨a1, m1, ep, hm1, hm2⟩ := hs.o1.shape
 have HM := Lib.hid (show s.po.length ≤ m1 ∧ m1 ≤ maxLen from ⟨hm1, hm2⟩)
 clear hm1 hm2
 have HP := Lib.hid hp
 subst ep
 have K := Lib.hid (Kb.nil w)
 obtain ⟨tF, htF⟩ : ∃ z, z = hearC s p q v := ⟨_, rfl⟩
 rw [← htF]
 have HTF := Lib.hid htF
 clear htF
 clear hs hr hn hid hok hp
 go_enter Tryd.func17, Tryd.ntmps17
 go_upto_region 0 with fail
 refine wp_region_lit ?_
 refine kb_box K.out 40 (.tmp 0) (stA s (.slice a1 s.po.length m1) p2 p3 p4) rfl rfl (by rfl) (pz (h := ?_))
 intro b1 w1 K1
 refine kb_box K1.out 61 (.tmp 2) (pdA { q with p8 := (v.r : Nat), p9 := (v.c : Nat), p10 := (v.b : Nat), p11 := (v.p : Nat) }) rfl rfl (by rfl) (pz (h := ?_))
 intro b2 w2 K2
 refine kb_alloc K2.out 40 (nil25) rfl z41 (by rfl) (pz (h := ?_))
 intro b3 w3 K3
 refine kb_alloc K3.out 49 (nilM) rfl zO (by rfl) (pz (h := ?_))
 intro b4 w4 K4
 refine wpList_nil ?_
 go_upto_region 1 with fail
 refine lz (wz1 (.agg (stA s (.slice a1 s.po.length m1) p2 p3 p4)) (h1 := by exact kb_all K4.out 0 rfl 40 _ rfl rfl Tryd.underlying40 rfl (size41)) (h := ?_))
 refine wpList_callV 29 #[stV s (.slice a1 s.po.length m1) p2 p3 p4] (fun v w5 => ∃ c : Cs, v = .pointer (some ⟨c.b, 0, none⟩) ∧ Begun w4 s c w5) (by rfl) (by go_simp) ((begin_any (HS.out.next K4.out.below) (HR.out.next K4.out.below) (by have := HNN.out; omega)).mono fun e w5 ⟨c, q1, _, q2⟩ => ⟨_, q1, c, rfl, q2⟩) ?_
 rintro v w5 ⟨⟨T, b, a, n, m, v2, v3, v4⟩, rfl, hB⟩
 (try simp only [Act.put, gA, gS, gZ, sA, sZ, sS])
 have BG := Lib.hid hB
 clear hB
 refine wz1 (pT b 0) (h := nz ?_)
 have HB1 := Lib.hid (show ∀ W, Below w5.heap.size w5 W → Blk W b1 (stA s (.slice a1 s.po.length m1) p2 p3 p4) 40 from fun W hW => ((K4.out.next BG.out.below).at (i := 0) rfl).below hW ((K4.out.next BG.out.below).at (i := 0) rfl).lt)
 have HBQ := Lib.hid (show ∀ W, Below w5.heap.size w5 W → Blk W b2 (pdA { q with p8 := (v.r : Nat), p9 := (v.c : Nat), p10 := (v.b : Nat), p11 := (v.p : Nat) }) 61 from fun W hW => ((K4.out.next BG.out.below).at (i := 1) rfl).below hW ((K4.out.next BG.out.below).at (i := 1) rfl).lt)
 have K5 := Lib.hid (Kb.nil w5)
 go_upto_region 2 with fail
 by_cases hh : 1 ≤ p ∧ p ≤ (s.po.length : Int)
 case neg =>
  have HH := Lib.hid hh
  clear hh
  refine lz (wz2 (.agg (stA s (.slice a1 s.po.length m1) p2 p3 p4)) (iV p) (h1 := by exact run_loadVar_of 40 _ rfl b1 rfl 40 _ _ (HB1.out _ K5.out.below) Tryd.underlying40 rfl size41) (h := ?_))
  refine kb_call K5.out 42 #[.agg (stA s (.slice a1 s.po.length m1) p2 p3 p4), .int .i64 p] (.bool false) (by rfl) (by go_simp) (by have q := has_any s a1 s.po.length m1 p2 p3 p4 p w5; rw [show (decide (1 ≤ p) && decide (p ≤ (s.po.length : Int))) = false from by have q1 := HH.out; simp; omega] at q; exact q) (py (h := ?_))
  intro w21 K21
  refine wz1 (.bool false) (h := wk (h := wk (h := wk (h := wk (h := wk (h := wk (h := wk (h := wz1 (.bool false) (h1 := by exact run_pick_no (.tmp 14) (.tmp 21) (.const (.bool false)) _ rfl rfl rfl) (h := nz ?_)))))))))
  have HWB := Lib.hid (show Below w5.heap.size w5 w21 from K21.out.below); have BG2 := Lib.hid (BG.out.next (show Below w5.heap.size w5 w21 from K21.out.below))
  obtain ⟨FF, hFF⟩ : ∃ z, z = foot ⟨T, b, a, n, m, v2, v3, v4⟩ (.slice none 0 0) (.slice none 0 0) := ⟨_, rfl⟩
  have HFF := Lib.hid hFF
  obtain ⟨t0, ht0⟩ : ∃ z : TS, z = ⟨s, [], []⟩ := ⟨_, rfl⟩
  have KA0 := Lib.hid (show Ta ⟨w21, ⟨T, b, a, n, m, v2, v3, v4⟩, FF⟩ [] t0 w21 from by rw [ht0, hFF]; exact BG2.out.act.start)
  have HT0 := Lib.hid ht0
  clear ht0 hFF
  have LEN := Lib.hid (show n = s.po.length ∧ n ≤ m ∧ m ≤ maxLen by have q := KA0.out.len; rw [HT0.out] at q; exact q)
  have HSQ := Lib.hid (show n ≤ 16 ∧ (n + 1) * n ≤ 272 by have q1 := LEN.out.1; have q2 := HNN.out; exact ⟨by omega, Nat.mul_le_mul (show n + 1 ≤ 17 by omega) (show n ≤ 16 by omega)⟩)
  go_upto_region 4 with fail
  have eF : tF = t0 := by rw [HTF.out, HT0.out]; unfold hearC; rw [if_neg HH.out]
  obtain ⟨tv, fv, hA, hKb, hL, hbk⟩ := Begun.back K4.out BG2.out (by have q := KA0.out; rw [HFF.out] at q; exact q) (by have q : (t0).rest = (s.vl, s.st, s.fd, s.c) := (by rw [HT0.out]; rfl); exact ⟨congrArg (fun z => z.1) q, congrArg (fun z => z.2.1) q, congrArg (fun z => z.2.2.1) q⟩)
  have HAA := Lib.hid hA
  have HKB := Lib.hid hKb
  have HLL := Lib.hid hL
  have HBK := Lib.hid hbk
  clear hA hKb hL hbk
  have HS1 := Lib.hid (show (stA (t0).s (.slice a n m) v2 v3 v4).all (·.oneCell') = true from st_one HLL.out.own)
  have HS2 := Lib.hid (show (#[tv, fv] : Array Value).all (·.oneCell') = true by simp [HAA.out.ot.oneCell, HAA.out.of.oneCell])
  refine lz (wz1 (pT b 0) (h := ?_))
  refine wpList_callT 32 #[.pointer (some ⟨b, 0, none⟩)] (.tuple #[.agg (stA (t0).s (.slice a n m) v2 v3 v4), .agg #[tv, fv]]) (fun w9 => Below w21.heap.size w21 w9) (by rfl) (by go_simp) (end_any HAA.out HLL.out.own.o2.oneCell HLL.out.own.o3.oneCell HLL.out.own.o4.oneCell) (py (h := ?_))
  intro w9 B9
  refine wz2 (.agg (stA (t0).s (.slice a n m) v2 v3 v4)) (.agg (#[tv, fv])) (h := ?_)
  refine kbm_row (G := (fun k => k = b3 ∨ k = b4)) (HKB.out.next B9.out) (Mv.of_below B9.out) (.inl rfl) 2 rfl 40 _ _ (stA (t0).s (.slice a n m) v2 v3 v4) rfl rfl rfl rfl size41 rfl HS1.out ?_
  intro w10 hk10 hm10
  (try simp only [Act.put, gA, gS, gZ, sA, sZ, sS])
  refine kbm_row hk10 hm10 (.inr rfl) 3 rfl 49 _ _ (#[tv, fv]) rfl rfl rfl rfl sizeO rfl HS2.out ?_
  intro w11 hk11 hm11
  (try simp only [Act.put, gA, gS, gZ, sA, sZ, sS])
  refine wpList_nil ?_
  have K11 := Lib.hid hk11
  have M11 := Lib.hid hm11
  clear hk10 hm10 hk11 hm11
  go_wp2_with fail
  (try simp only [Exit.inBlock, Exit.then])
  refine bodyPost_ret (v := .tuple #[.agg (stA (t0).s (.slice a n m) v2 v3 v4), .agg #[tv, fv]]) (results_rows Tryd.results17 _ _ b3 b4 40 49 (stA (t0).s (.slice a n m) v2 v3 v4) (#[tv, fv]) rfl rfl (K11.out.at (i := 2) rfl) (K11.out.at (i := 3) rfl) Tryd.underlying40 rfl size41 Tryd.underlying49 rfl sizeO) rfl ?_
  try rw [eF]
  exact ⟨.slice a n m, v2, v3, v4, tv, fv, rfl, HLL.out.mv M11.out K11.out.below (fun k hk => by have hk2 := HBK.out k hk; have l2 := (K4.out.at (i := 2) rfl).lt; have l3 := (K4.out.at (i := 3) rfl).lt; rintro (e | e) <;> omega)⟩
 case pos =>
  have HH := Lib.hid hh
  clear hh
  obtain ⟨ip, hip⟩ : ∃ k : Nat, p = (k : Int) + 1 := ⟨(p - 1).toNat, by have := HH.out; omega⟩
  subst hip
  have HIL := Lib.hid (show ip < s.po.length by have := HH.out; omega)
  obtain ⟨x, hx⟩ : ∃ x, s.po[ip]? = some x := ⟨_, List.getElem?_eq_getElem HIL.out⟩
  obtain ⟨g1, ha1, -, -, hr1⟩ := HS.out.o1.elem po_len hx
  subst ha1
  have HX := Lib.hid hx
  have HR1 := Lib.hid hr1
  have HSB := Lib.hid (show hearC s ((ip : Int) + 1) q v = if onP x = true then hearM ⟨s, [], []⟩ ip q v else ⟨s, [], []⟩ by unfold hearC; rw [if_pos HH.out, show ((ip : Int) + 1 - 1).toNat = ip by omega, hx])
  have HKB := Lib.hid (show (ip : Int) < 100 by have q1 := HIL.out; have q2 := HNN.out; omega)
  clear hx hr1
  rcases (show onP x = true ∨ onP x = false by cases onP x <;> simp) with hon | hon
  case inr =>
   have HON := Lib.hid hon
   clear hon
   refine lz (wz2 (.agg (stA s (.slice (some ⟨g1, 0, none⟩) s.po.length m1) p2 p3 p4)) (iV ((ip : Int) + 1)) (h1 := by exact run_loadVar_of 40 _ rfl b1 rfl 40 _ _ (HB1.out _ K5.out.below) Tryd.underlying40 rfl size41) (h := ?_))
   refine kb_call K5.out 42 #[.agg (stA s (.slice (some ⟨g1, 0, none⟩) s.po.length m1) p2 p3 p4), .int .i64 ((ip : Int) + 1)] (.bool true) (by rfl) (by go_simp) (by have q := has_any s (some ⟨g1, 0, none⟩) s.po.length m1 p2 p3 p4 ((ip : Int) + 1) w5; rw [show (decide (1 ≤ (ip : Int) + 1) && decide ((ip : Int) + 1 ≤ (s.po.length : Int))) = true from by have q1 := HH.out; simp [q1.1, q1.2]] at q; exact q) (py (h := ?_))
   intro w21 K21
   refine wz6 (.bool true) (pT b1 6) (.slice (some ⟨g1, 0, none⟩) s.po.length m1) (iV ((ip : Int) + 1)) (iV (ip : Nat)) (pT g1 (ip * 21)) (h3 := by have q : w21.cell? ⟨b1, 6, none⟩ = some (.slice (some ⟨g1, 0, none⟩) s.po.length m1) := ((HB1.out _ K21.out.below).cell 6).trans rfl; go_simp) (h5 := by have q := HKB.out; go_simp; try exact wrap_i64 (by omega) (by omega)) (h6 := by have q1 : ip < s.po.length := HIL.out; have q2 := HM.out.1; go_simp) (h := wz1 (.agg (poA x)) (h1 := by exact run_loadRange 73 _ rfl g1 (ip * 21) rfl (poA x) _ (HR1.out _ ((K4.out.next BG.out.below).below.trans (K21.out.below.mono (Nat.le_trans K4.out.below.size BG.out.below.size)))) Tryd.underlying73 rfl (po_info _)) (h := ?_))
   refine kb_call K21.out 20 #[.agg (poA x)] (.bool false) (by rfl) (by go_simp) (on_is3 x false HON.out w21) (py (h := ?_))
   intro w22 K22
   refine wz1 (.bool false) (h1 := by exact run_pick_yes (.tmp 14) (.tmp 21) (.const (.bool false)) _ rfl rfl rfl) (h := nz ?_)
   have HWB := Lib.hid (show Below w5.heap.size w5 w22 from K22.out.below); have BG2 := Lib.hid (BG.out.next (show Below w5.heap.size w5 w22 from K22.out.below))
   obtain ⟨FF, hFF⟩ : ∃ z, z = foot ⟨T, b, a, n, m, v2, v3, v4⟩ (.slice none 0 0) (.slice none 0 0) := ⟨_, rfl⟩
   have HFF := Lib.hid hFF
   obtain ⟨t0, ht0⟩ : ∃ z : TS, z = ⟨s, [], []⟩ := ⟨_, rfl⟩
   have KA0 := Lib.hid (show Ta ⟨w22, ⟨T, b, a, n, m, v2, v3, v4⟩, FF⟩ [] t0 w22 from by rw [ht0, hFF]; exact BG2.out.act.start)
   have HT0 := Lib.hid ht0
   clear ht0 hFF
   have LEN := Lib.hid (show n = s.po.length ∧ n ≤ m ∧ m ≤ maxLen by have q := KA0.out.len; rw [HT0.out] at q; exact q)
   have HSQ := Lib.hid (show n ≤ 16 ∧ (n + 1) * n ≤ 272 by have q1 := LEN.out.1; have q2 := HNN.out; exact ⟨by omega, Nat.mul_le_mul (show n + 1 ≤ 17 by omega) (show n ≤ 16 by omega)⟩)
   go_upto_region 4 with fail
   have eF : tF = t0 := by rw [HTF.out, HT0.out, HSB.out, if_neg (by rw [HON.out]; decide)]
   obtain ⟨tv, fv, hA, hKb, hL, hbk⟩ := Begun.back K4.out BG2.out (by have q := KA0.out; rw [HFF.out] at q; exact q) (by have q : (t0).rest = (s.vl, s.st, s.fd, s.c) := (by rw [HT0.out]; rfl); exact ⟨congrArg (fun z => z.1) q, congrArg (fun z => z.2.1) q, congrArg (fun z => z.2.2.1) q⟩)
   have HAA := Lib.hid hA
   have HKB := Lib.hid hKb
   have HLL := Lib.hid hL
   have HBK := Lib.hid hbk
   clear hA hKb hL hbk
   have HS1 := Lib.hid (show (stA (t0).s (.slice a n m) v2 v3 v4).all (·.oneCell') = true from st_one HLL.out.own)
   have HS2 := Lib.hid (show (#[tv, fv] : Array Value).all (·.oneCell') = true by simp [HAA.out.ot.oneCell, HAA.out.of.oneCell])
   refine lz (wz1 (pT b 0) (h := ?_))
   refine wpList_callT 32 #[.pointer (some ⟨b, 0, none⟩)] (.tuple #[.agg (stA (t0).s (.slice a n m) v2 v3 v4), .agg #[tv, fv]]) (fun w9 => Below w22.heap.size w22 w9) (by rfl) (by go_simp) (end_any HAA.out HLL.out.own.o2.oneCell HLL.out.own.o3.oneCell HLL.out.own.o4.oneCell) (py (h := ?_))
   intro w9 B9
   refine wz2 (.agg (stA (t0).s (.slice a n m) v2 v3 v4)) (.agg (#[tv, fv])) (h := ?_)
   refine kbm_row (G := (fun k => k = b3 ∨ k = b4)) (HKB.out.next B9.out) (Mv.of_below B9.out) (.inl rfl) 2 rfl 40 _ _ (stA (t0).s (.slice a n m) v2 v3 v4) rfl rfl rfl rfl size41 rfl HS1.out ?_
   intro w10 hk10 hm10
   (try simp only [Act.put, gA, gS, gZ, sA, sZ, sS])
   refine kbm_row hk10 hm10 (.inr rfl) 3 rfl 49 _ _ (#[tv, fv]) rfl rfl rfl rfl sizeO rfl HS2.out ?_
   intro w11 hk11 hm11
   (try simp only [Act.put, gA, gS, gZ, sA, sZ, sS])
   refine wpList_nil ?_
   have K11 := Lib.hid hk11
   have M11 := Lib.hid hm11
   clear hk10 hm10 hk11 hm11
   go_wp2_with fail
   (try simp only [Exit.inBlock, Exit.then])
   refine bodyPost_ret (v := .tuple #[.agg (stA (t0).s (.slice a n m) v2 v3 v4), .agg #[tv, fv]]) (results_rows Tryd.results17 _ _ b3 b4 40 49 (stA (t0).s (.slice a n m) v2 v3 v4) (#[tv, fv]) rfl rfl (K11.out.at (i := 2) rfl) (K11.out.at (i := 3) rfl) Tryd.underlying40 rfl size41 Tryd.underlying49 rfl sizeO) rfl ?_
   try rw [eF]
   exact ⟨.slice a n m, v2, v3, v4, tv, fv, rfl, HLL.out.mv M11.out K11.out.below (fun k hk => by have hk2 := HBK.out k hk; have l2 := (K4.out.at (i := 2) rfl).lt; have l3 := (K4.out.at (i := 3) rfl).lt; rintro (e | e) <;> omega)⟩
  case inl =>
   have HON := Lib.hid hon
   clear hon
   refine lz (wz2 (.agg (stA s (.slice (some ⟨g1, 0, none⟩) s.po.length m1) p2 p3 p4)) (iV ((ip : Int) + 1)) (h1 := by exact run_loadVar_of 40 _ rfl b1 rfl 40 _ _ (HB1.out _ K5.out.below) Tryd.underlying40 rfl size41) (h := ?_))
   refine kb_call K5.out 42 #[.agg (stA s (.slice (some ⟨g1, 0, none⟩) s.po.length m1) p2 p3 p4), .int .i64 ((ip : Int) + 1)] (.bool true) (by rfl) (by go_simp) (by have q := has_any s (some ⟨g1, 0, none⟩) s.po.length m1 p2 p3 p4 ((ip : Int) + 1) w5; rw [show (decide (1 ≤ (ip : Int) + 1) && decide ((ip : Int) + 1 ≤ (s.po.length : Int))) = true from by have q1 := HH.out; simp [q1.1, q1.2]] at q; exact q) (py (h := ?_))
   intro w21 K21
   refine wz6 (.bool true) (pT b1 6) (.slice (some ⟨g1, 0, none⟩) s.po.length m1) (iV ((ip : Int) + 1)) (iV (ip : Nat)) (pT g1 (ip * 21)) (h3 := by have q : w21.cell? ⟨b1, 6, none⟩ = some (.slice (some ⟨g1, 0, none⟩) s.po.length m1) := ((HB1.out _ K21.out.below).cell 6).trans rfl; go_simp) (h5 := by have q := HKB.out; go_simp; try exact wrap_i64 (by omega) (by omega)) (h6 := by have q1 : ip < s.po.length := HIL.out; have q2 := HM.out.1; go_simp) (h := wz1 (.agg (poA x)) (h1 := by exact run_loadRange 73 _ rfl g1 (ip * 21) rfl (poA x) _ (HR1.out _ ((K4.out.next BG.out.below).below.trans (K21.out.below.mono (Nat.le_trans K4.out.below.size BG.out.below.size)))) Tryd.underlying73 rfl (po_info _)) (h := ?_))
   refine kb_call K21.out 20 #[.agg (poA x)] (.bool true) (by rfl) (by go_simp) (on_is3 x true HON.out w21) (py (h := ?_))
   intro w22 K22
   refine wz1 (.bool true) (h1 := by exact run_pick_yes (.tmp 14) (.tmp 21) (.const (.bool false)) _ rfl rfl rfl) (h := nz ?_)
   have HWB := Lib.hid (show Below w5.heap.size w5 w22 from K22.out.below); have BG2 := Lib.hid (BG.out.next (show Below w5.heap.size w5 w22 from K22.out.below))
   obtain ⟨FF, hFF⟩ : ∃ z, z = foot ⟨T, b, a, n, m, v2, v3, v4⟩ (.slice none 0 0) (.slice none 0 0) := ⟨_, rfl⟩
   have HFF := Lib.hid hFF
   obtain ⟨t0, ht0⟩ : ∃ z : TS, z = ⟨s, [], []⟩ := ⟨_, rfl⟩
   have KA0 := Lib.hid (show Ta ⟨w22, ⟨T, b, a, n, m, v2, v3, v4⟩, FF⟩ [] t0 w22 from by rw [ht0, hFF]; exact BG2.out.act.start)
   have HT0 := Lib.hid ht0
   clear ht0 hFF
   have LEN := Lib.hid (show n = s.po.length ∧ n ≤ m ∧ m ≤ maxLen by have q := KA0.out.len; rw [HT0.out] at q; exact q)
   have HSQ := Lib.hid (show n ≤ 16 ∧ (n + 1) * n ≤ 272 by have q1 := LEN.out.1; have q2 := HNN.out; exact ⟨by omega, Nat.mul_le_mul (show n + 1 ≤ 17 by omega) (show n ≤ 16 by omega)⟩)
   go_upto_region 3 with fail
   have HXU := Lib.hid (show t0.s.po[ip]? = some (poU x (vecN x)) by rw [HT0.out, ← okP_poU (HOK.out ip x HX.out)]; exact HX.out)
   refine lz (wz4 (pT b 0) (iV ((ip : Int) + 1)) (iV (ip : Nat)) (.agg (pdA { q with p8 := (v.r : Nat), p9 := (v.c : Nat), p10 := (v.b : Nat), p11 := (v.p : Nat) })) (h3 := by have q := HKB.out; go_simp; try exact wrap_i64 (by omega) (by omega)) (h4 := by exact run_loadVar_of 61 _ rfl b2 rfl 61 _ _ (HBQ.out w22 (HWB.out)) Tryd.underlying61 rfl (pd_info _)) (h := ?_))
   refine ta_act KA0.out 43 #[.pointer (some ⟨b, 0, none⟩), .int .i64 (ip : Nat), .agg (pdA { q with p8 := (v.r : Nat), p9 := (v.c : Nat), p10 := (v.b : Nat), p11 := (v.p : Nat) })] (hearM t0 ip q v) (by rfl) (by go_simp) (fun tv fv h => hearM_any choose_ok q v h HXU.out (by rw [HT0.out]; exact HOK.out) HVO.out (by rw [HT0.out]; exact HID.out) (by rw [HT0.out]; have q := HSQ.out; show 0 + n + (n + 1) * n ≤ 1000; omega) (by rw [HT0.out]; have q := HSQ.out; show 0 + n ≤ 1000; omega)) (py (h := ?_))
   intro w23 K23
   refine wpList_nil ?_
   go_upto_region 4 with fail
   have eF : tF = (hearM t0 ip q v) := by rw [HTF.out, HT0.out, HSB.out, if_pos HON.out]
   obtain ⟨tv, fv, hA, hKb, hL, hbk⟩ := Begun.back K4.out BG2.out (by have q := K23.out; rw [HFF.out] at q; exact q) (by have q : ((hearM t0 ip q v)).rest = (s.vl, s.st, s.fd, s.c) := ((hearM_rest q v HXU.out).trans (by rw [HT0.out]; rfl)); exact ⟨congrArg (fun z => z.1) q, congrArg (fun z => z.2.1) q, congrArg (fun z => z.2.2.1) q⟩)
   have HAA := Lib.hid hA
   have HKB := Lib.hid hKb
   have HLL := Lib.hid hL
   have HBK := Lib.hid hbk
   clear hA hKb hL hbk
   have HS1 := Lib.hid (show (stA ((hearM t0 ip q v)).s (.slice a n m) v2 v3 v4).all (·.oneCell') = true from st_one HLL.out.own)
   have HS2 := Lib.hid (show (#[tv, fv] : Array Value).all (·.oneCell') = true by simp [HAA.out.ot.oneCell, HAA.out.of.oneCell])
   refine lz (wz1 (pT b 0) (h := ?_))
   refine wpList_callT 32 #[.pointer (some ⟨b, 0, none⟩)] (.tuple #[.agg (stA ((hearM t0 ip q v)).s (.slice a n m) v2 v3 v4), .agg #[tv, fv]]) (fun w9 => Below w23.heap.size w23 w9) (by rfl) (by go_simp) (end_any HAA.out HLL.out.own.o2.oneCell HLL.out.own.o3.oneCell HLL.out.own.o4.oneCell) (py (h := ?_))
   intro w9 B9
   refine wz2 (.agg (stA ((hearM t0 ip q v)).s (.slice a n m) v2 v3 v4)) (.agg (#[tv, fv])) (h := ?_)
   refine kbm_row (G := (fun k => k = b3 ∨ k = b4)) (HKB.out.next B9.out) (Mv.of_below B9.out) (.inl rfl) 2 rfl 40 _ _ (stA ((hearM t0 ip q v)).s (.slice a n m) v2 v3 v4) rfl rfl rfl rfl size41 rfl HS1.out ?_
   intro w10 hk10 hm10
   (try simp only [Act.put, gA, gS, gZ, sA, sZ, sS])
   refine kbm_row hk10 hm10 (.inr rfl) 3 rfl 49 _ _ (#[tv, fv]) rfl rfl rfl rfl sizeO rfl HS2.out ?_
   intro w11 hk11 hm11
   (try simp only [Act.put, gA, gS, gZ, sA, sZ, sS])
   refine wpList_nil ?_
   have K11 := Lib.hid hk11
   have M11 := Lib.hid hm11
   clear hk10 hm10 hk11 hm11
   go_wp2_with fail
   (try simp only [Exit.inBlock, Exit.then])
   refine bodyPost_ret (v := .tuple #[.agg (stA ((hearM t0 ip q v)).s (.slice a n m) v2 v3 v4), .agg #[tv, fv]]) (results_rows Tryd.results17 _ _ b3 b4 40 49 (stA ((hearM t0 ip q v)).s (.slice a n m) v2 v3 v4) (#[tv, fv]) rfl rfl (K11.out.at (i := 2) rfl) (K11.out.at (i := 3) rfl) Tryd.underlying40 rfl size41 Tryd.underlying49 rfl sizeO) rfl ?_
   try rw [eF]
   exact ⟨.slice a n m, v2, v3, v4, tv, fv, rfl, HLL.out.mv M11.out K11.out.below (fun k hk => by have hk2 := HBK.out k hk; have l2 := (K4.out.at (i := 2) rfl).lt; have l3 := (K4.out.at (i := 3) rfl).lt; rintro (e | e) <;> omega)⟩
end
end Go.Proofs.YteeinlbhcdpnnaaDoor
