import Derived.Test.YteeinlbhcdpnnaaDoorG4
import Derived.Test.YteeinlbhcdpnnaaDoorG2
import Derived.Test.YteeinlbhcdpnnaaDoorG9
import Derived.Test.YteeinlbhcdpnnaaDoorG1
import Derived.Test.YteeinlbhcdpnnaaDoorG3
import Derived.Test.YteeinlbhcdpnnaaDoorG8
import Derived.Deep.Slices
import Derived.OpenShut
import Derived.Below
import Derived.WalkKit
import Derived.ProofKit
set_option linter.unusedSimpArgs false
set_option linter.unusedVariables false
namespace Go.Proofs.YteeinlbhcdpnnaaDoor
section
open Go.RowKit
attribute [local irreducible] wpQuiet wpList
def tellQ (t : TS) (x : Po) : Pd := ⟨0, (decide (0 < x.p20)), (!decide (x.p11 = 2)), (decide (x.p11 = 1) || decide (x.p11 = 2)), (decide (x.p11 = 2)), false, false, 0, 0, 0, 0, 0, (IntKind.u16.wrap (ageL t.s.po)), (IntKind.u16.wrap t.s.cf.p1), (IntKind.u16.wrap t.s.cf.p2), (IntKind.u16.wrap t.s.cf.p3)⟩
def tellM (t : TS) (i : Nat) : TS := match t.s.po[i]? with
 | some x => sendM t i (tellQ t x)
 | none => t
set_option maxRecDepth 100000 in
set_option maxHeartbeats 8000000 in
theorem tell_any {T b n m : Nat} {a : Option Addr} {v2 v3 v4 tv fv : Value} {t : TS} {w : World} {ip : Nat} {x : Po} (h : Tact w ⟨T, b, a, n, m, v2, v3, v4⟩ tv fv t) (hx : t.s.po[ip]? = some x) (hr : 0 ≤ x.p10 ∧ x.p10 ≤ 4) (htl : t.told.length ≤ 1000) : Calls Tryd.prog 60 #[.pointer (some ⟨b, 0, none⟩), .int .i64 (ip : Nat)] w fun e w' => e = .returned (.tuple #[]) ∧ Done w ⟨T, b, a, n, m, v2, v3, v4⟩ tv fv (tellM t ip) w' := by
 have HRR := Lib.hid hr
 have HTL := Lib.hid htl
 clear hr htl
 obtain ⟨tF, htF⟩ : ∃ z, z = tellM t ip := ⟨_, rfl⟩
 obtain ⟨tp, htp⟩ : ∃ z, z = decide (0 < x.p20) := ⟨_, rfl⟩
 obtain ⟨fw, hfw⟩ : ∃ z, z = decide (x.p11 = 2) := ⟨_, rfl⟩
 rw [← htF]
 have HTF := Lib.hid htF
 have HTP := Lib.hid htp
 have HFW := Lib.hid hfw
 clear htF htp hfw
 have HC := Lib.hid (show x.p11 = 1 ∨ ¬ x.p11 = 1 by omega)
 have LEN := Lib.hid h.len
 obtain ⟨g, rfl⟩ : ∃ g, a = some ⟨g, 0, none⟩ := h.ptr hx
 have HX := Lib.hid hx
 have HLT := Lib.hid (show ip < n by have q := (List.getElem?_eq_some_iff.1 hx).1; have q2 := h.len.1; exact Nat.lt_of_lt_of_eq q q2.symm)
 clear hx
 obtain ⟨F, hF⟩ : ∃ F, F = foot ⟨T, b, some ⟨g, 0, none⟩, n, m, v2, v3, v4⟩ tv fv := ⟨_, rfl⟩
 have HF := Lib.hid hF
 have K := Lib.hid (show Ta ⟨w, ⟨T, b, some ⟨g, 0, none⟩, n, m, v2, v3, v4⟩, F⟩ [] t w from hF ▸ h.start)
 clear hF h
 go_enter Tryd.func60, Tryd.ntmps60
 go_upto_region 0 with fail
 refine lz (wz6 (pT b 0) (pT b 0) (pT b 0) (pT b 6) (.slice (some ⟨g, 0, none⟩) n m) (iV (ip : Nat)) (h5 := by have q : w.cell? ⟨b, 6, none⟩ = some (.slice (some ⟨g, 0, none⟩) n m) := K.out.acell 6 rfl; go_simp) (h := wz2 (pT g (ip * 21)) (.agg (poA x)) (h1 := by have q1 : ip < n := HLT.out; have q2 : n ≤ m := LEN.out.2.1; go_simp) (h2 := by exact run_loadRange 73 _ rfl g (ip * 21) rfl (poA x) _ (K.out.prange rfl HX.out) Tryd.underlying73 rfl (po_info _)) (h := ?_)))
 refine ta_alloc K.out 73 (nil21) rfl z50 (by rfl) (pz (h := ?_))
 intro b1 w1 K1
 refine ta_row K1.out 0 rfl 73 _ _ (poA x) rfl rfl rfl rfl (size50) (by rfl) (po_all _) (py (h := ?_))
 intro w2 K2
 refine wpList_nil ?_
 go_upto_region 1 with fail
 rcases HC.out with h1 | h1
 case inl =>
  have H1 := Lib.hid h1
  clear h1
  have HF2 := Lib.hid (show ¬ x.p11 = 2 by have := H1.out; omega)
  have e1 : tF = sendM t ip ⟨0, tp, true, true, false, false, false, 0, 0, 0, 0, 0, (IntKind.u16.wrap (ageL t.s.po)), (IntKind.u16.wrap t.s.cf.p1), (IntKind.u16.wrap t.s.cf.p2), (IntKind.u16.wrap t.s.cf.p3)⟩ := by
   rw [HTF.out]; unfold tellM; rw [HX.out]; show sendM t ip (tellQ t x) = _; unfold tellQ; rw [HTP.out]; simp [H1.out]
  have HE1 := Lib.hid e1
  clear e1
  refine rk (fun (_ : Unit) => [pT b 0, iV (ip : Nat), pT b1 20, iV x.p20, .bool tp, pT b1 11, iV x.p11, .bool true, pT b1 11, iV x.p11, .bool true, .bool true, undef, undef, undef, .bool true, pT b1 11, iV x.p11, .bool false, pT b 0, iV (ageL t.s.po), .int .u16 (IntKind.u16.wrap (ageL t.s.po)), pT b 0, pT b 0, pT b 0, pT b 0, pT b 1, iV t.s.cf.p1, .int .u16 (IntKind.u16.wrap t.s.cf.p1), pT b 0, pT b 0, pT b 0, pT b 0, pT b 2, iV t.s.cf.p2, .int .u16 (IntKind.u16.wrap t.s.cf.p2), pT b 0, pT b 0, pT b 0, pT b 0, pT b 3, iV t.s.cf.p3, .int .u16 (IntKind.u16.wrap t.s.cf.p3), .agg (pdA ⟨0, tp, true, true, false, false, false, 0, 0, 0, 0, 0, (IntKind.u16.wrap (ageL t.s.po)), (IntKind.u16.wrap t.s.cf.p1), (IntKind.u16.wrap t.s.cf.p2), (IntKind.u16.wrap t.s.cf.p3)⟩), .tuple #[]]) (fun _ Lx w' => Ta ⟨w, ⟨T, b, some ⟨g, 0, none⟩, n, m, v2, v3, v4⟩, F⟩ [(b1, poA x, 73)] (bif Lx 44 then tF else t) w') (()) [12, 13, 14] [] [(3, fun _ => [(15, pT b1 20)]), (4, fun _ => [(16, iV x.p20)]), (6, fun _ => [(18, pT b1 11)]), (7, fun _ => [(19, iV x.p11)]), (9, fun _ => [(21, pT b1 11)]), (10, fun _ => [(22, iV x.p11)]), (17, fun _ => [(29, pT b1 11)]), (18, fun _ => [(30, iV x.p11)]), (20, fun _ => [(32, pT b 0)]), (21, fun _ => [(33, iV (ageL t.s.po))]), (27, fun _ => [(39, pT b 1)]), (28, fun _ => [(40, iV t.s.cf.p1)]), (34, fun _ => [(46, pT b 2)]), (35, fun _ => [(47, iV t.s.cf.p2)]), (41, fun _ => [(53, pT b 3)]), (42, fun _ => [(54, iV t.s.cf.p3)]), (43, fun _ => [(17, .bool tp), (20, .bool true), (28, .bool true), (31, .bool false), (34, .int .u16 (IntKind.u16.wrap (ageL t.s.po))), (41, .int .u16 (IntKind.u16.wrap t.s.cf.p1)), (48, .int .u16 (IntKind.u16.wrap t.s.cf.p2)), (55, .int .u16 (IntKind.u16.wrap t.s.cf.p3))]), (44, fun _ => [(13, pT b 0), (14, iV (ip : Nat)), (56, .agg (pdA ⟨0, tp, true, true, false, false, false, 0, 0, 0, 0, 0, (IntKind.u16.wrap (ageL t.s.po)), (IntKind.u16.wrap t.s.cf.p1), (IntKind.u16.wrap t.s.cf.p2), (IntKind.u16.wrap t.s.cf.p3)⟩))])] [44] (K2.out.drew) (fun _ _ _ _ => trivial) (fun _ L1 L2 _ e h => by (try dsimp only at h ⊢); rw [← e 44 (by decide)]; exact h) ?_ ?_
  ·
   refine ⟨?_, ?_, ?_, ?_, ?_, ?_, ?_, ?_, ?_, ?_, ?_, ?_, ?_, ?_, ?_, ?_, ?_, ?_, trivial⟩ <;> (rintro _ Lx w' hw hL haft hdc ρ hc hf hG hs o ho; cases ho; try dsimp only [pT, iV, seen] at hw hs)
   ·
    have hn44 : Lx 44 = false := nup (fun cq => hdc 4 (hdc 43 (hdc 44 cq 43 (by decide)) 4 (by decide)) 3 (by decide)) hL
    have hwo : Ta ⟨w, ⟨T, b, some ⟨g, 0, none⟩, n, m, v2, v3, v4⟩, F⟩ [(b1, poA x, 73)] (t) w' := by rw [hn44] at hw; exact hw
    exact sq (iV x.p20) (by have q : w'.cell? ⟨b1, 20, none⟩ = some (iV x.p20) := Ta.cell (i := 0) hwo rfl (by rfl); go_simp)
   ·
    exact sq (.bool tp) (by rw [show (Value.bool tp) = .bool (decide (0 < x.p20)) from by rw [HTP.out]]; go_simp)
   ·
    have hn44 : Lx 44 = false := nup (fun cq => hdc 7 (hdc 43 (hdc 44 cq 43 (by decide)) 7 (by decide)) 6 (by decide)) hL
    have hwo : Ta ⟨w, ⟨T, b, some ⟨g, 0, none⟩, n, m, v2, v3, v4⟩, F⟩ [(b1, poA x, 73)] (t) w' := by rw [hn44] at hw; exact hw
    exact sq (iV x.p11) (by have q : w'.cell? ⟨b1, 11, none⟩ = some (iV x.p11) := Ta.cell (i := 0) hwo rfl (by rfl); go_simp)
   ·
    exact sq (.bool true) (by have q := HF2.out; go_simp)
   ·
    have hn44 : Lx 44 = false := nup (fun cq => hdc 10 (hdc 11 (hdc 15 (hdc 43 (hdc 44 cq 43 (by decide)) 15 (by decide)) 11 (by decide)) 10 (by decide)) 9 (by decide)) hL
    have hwo : Ta ⟨w, ⟨T, b, some ⟨g, 0, none⟩, n, m, v2, v3, v4⟩, F⟩ [(b1, poA x, 73)] (t) w' := by rw [hn44] at hw; exact hw
    exact sq (iV x.p11) (by have q : w'.cell? ⟨b1, 11, none⟩ = some (iV x.p11) := Ta.cell (i := 0) hwo rfl (by rfl); go_simp)
   ·
    exact sq (.bool true) (by have q := H1.out; go_simp)
   ·
    have hn44 : Lx 44 = false := nup (fun cq => hdc 18 (hdc 43 (hdc 44 cq 43 (by decide)) 18 (by decide)) 17 (by decide)) hL
    have hwo : Ta ⟨w, ⟨T, b, some ⟨g, 0, none⟩, n, m, v2, v3, v4⟩, F⟩ [(b1, poA x, 73)] (t) w' := by rw [hn44] at hw; exact hw
    exact sq (iV x.p11) (by have q : w'.cell? ⟨b1, 11, none⟩ = some (iV x.p11) := Ta.cell (i := 0) hwo rfl (by rfl); go_simp)
   ·
    exact sq (.bool false) (by have q := HF2.out; go_simp)
   ·
    have hn44 : Lx 44 = false := nup (fun cq => hdc 21 (hdc 43 (hdc 44 cq 43 (by decide)) 21 (by decide)) 20 (by decide)) hL
    have hwo : Ta ⟨w, ⟨T, b, some ⟨g, 0, none⟩, n, m, v2, v3, v4⟩, F⟩ [(b1, poA x, 73)] (t) w' := by rw [hn44] at hw; exact hw
    exact sc (iV (ageL t.s.po)) 77 #[pT b 0] (by obtain ⟨tv2, fv2, q1, -, -⟩ := hwo.act; exact age_any q1) (by go_simp) (fun w2 hb => ⟨(), fun _ _ => rfl, rfl, hw.next hb⟩)
   ·
    exact sq (.int .u16 (IntKind.u16.wrap (ageL t.s.po)))
   ·
    have hn44 : Lx 44 = false := nup (fun cq => hdc 28 (hdc 43 (hdc 44 cq 43 (by decide)) 28 (by decide)) 27 (by decide)) hL
    have hwo : Ta ⟨w, ⟨T, b, some ⟨g, 0, none⟩, n, m, v2, v3, v4⟩, F⟩ [(b1, poA x, 73)] (t) w' := by rw [hn44] at hw; exact hw
    exact sq (iV t.s.cf.p1) (by have q : w'.cell? ⟨b, 1, none⟩ = some (iV t.s.cf.p1) := hwo.acell 1 rfl; go_simp)
   ·
    exact sq (.int .u16 (IntKind.u16.wrap t.s.cf.p1))
   ·
    have hn44 : Lx 44 = false := nup (fun cq => hdc 35 (hdc 43 (hdc 44 cq 43 (by decide)) 35 (by decide)) 34 (by decide)) hL
    have hwo : Ta ⟨w, ⟨T, b, some ⟨g, 0, none⟩, n, m, v2, v3, v4⟩, F⟩ [(b1, poA x, 73)] (t) w' := by rw [hn44] at hw; exact hw
    exact sq (iV t.s.cf.p2) (by have q : w'.cell? ⟨b, 2, none⟩ = some (iV t.s.cf.p2) := hwo.acell 2 rfl; go_simp)
   ·
    exact sq (.int .u16 (IntKind.u16.wrap t.s.cf.p2))
   ·
    have hn44 : Lx 44 = false := nup (fun cq => hdc 42 (hdc 43 (hdc 44 cq 43 (by decide)) 42 (by decide)) 41 (by decide)) hL
    have hwo : Ta ⟨w, ⟨T, b, some ⟨g, 0, none⟩, n, m, v2, v3, v4⟩, F⟩ [(b1, poA x, 73)] (t) w' := by rw [hn44] at hw; exact hw
    exact sq (iV t.s.cf.p3) (by have q : w'.cell? ⟨b, 3, none⟩ = some (iV t.s.cf.p3) := hwo.acell 3 rfl; go_simp)
   ·
    exact sq (.int .u16 (IntKind.u16.wrap t.s.cf.p3))
   ·
    obtain ⟨e17, e20, e28, e31, e34, e41, e48, e55, _⟩ := hs
    exact sq (.agg (pdA ⟨0, tp, true, true, false, false, false, 0, 0, 0, 0, 0, (IntKind.u16.wrap (ageL t.s.po)), (IntKind.u16.wrap t.s.cf.p1), (IntKind.u16.wrap t.s.cf.p2), (IntKind.u16.wrap t.s.cf.p3)⟩)) (l_build 61 [(1, .tmp 17), (2, .tmp 20), (3, .tmp 28), (4, .tmp 31), (12, .tmp 34), (13, .tmp 41), (14, .tmp 48), (15, .tmp 55)] rfl _ (pdA ⟨0, tp, true, true, false, false, false, 0, 0, 0, 0, 0, (IntKind.u16.wrap (ageL t.s.po)), (IntKind.u16.wrap t.s.cf.p1), (IntKind.u16.wrap t.s.cf.p2), (IntKind.u16.wrap t.s.cf.p3)⟩) (by simp only [List.map_cons, List.map_nil, e17, e20, e28, e31, e34, e41, e48, e55]; rfl) (by kernel_rfl))
   ·
    have hw0 : Ta ⟨w, ⟨T, b, some ⟨g, 0, none⟩, n, m, v2, v3, v4⟩, F⟩ [(b1, poA x, 73)] (t) w' := by rw [hL] at hw; exact hw
    exact sc (B := fun w2 => Ta ⟨w, ⟨T, b, some ⟨g, 0, none⟩, n, m, v2, v3, v4⟩, F⟩ [(b1, poA x, 73)] tF w2) (.tuple #[]) 61 #[pT b 0, iV (ip : Nat), .agg (pdA ⟨0, tp, true, true, false, false, false, 0, 0, 0, 0, 0, (IntKind.u16.wrap (ageL t.s.po)), (IntKind.u16.wrap t.s.cf.p1), (IntKind.u16.wrap t.s.cf.p2), (IntKind.u16.wrap t.s.cf.p3)⟩)] (by obtain ⟨tv2, fv2, q1, q2, q3⟩ := hw0.act; rw [HE1.out]; exact (send_any ⟨0, tp, true, true, false, false, false, 0, 0, 0, 0, 0, (IntKind.u16.wrap (ageL t.s.po)), (IntKind.u16.wrap t.s.cf.p1), (IntKind.u16.wrap t.s.cf.p2), (IntKind.u16.wrap t.s.cf.p3)⟩ q1 HX.out HRR.out HTL.out).mono fun e w2 ⟨he, tv', fv', k1, k2, k3⟩ => ⟨he, hw0.act_step q1 q2 q3 k1 k2 k3⟩) (by go_simp) (fun w2 hb => ⟨(), fun _ _ => rfl, rfl, hb⟩)
  intro _ Lx w3 hw hall
  try dsimp only at hw
  simp only [pT, iV, List.toList_toArray, putsZ_some, putsZ_none, putsZ_nil, List.setIfInBounds_toArray, List.set_cons_zero, List.set_cons_succ]
  rw [hall 44 (by decide)] at hw
  simp only [cond_true] at hw
  have K3 := Lib.hid hw
  clear hw hall
  go_wp2_with fail
  go_end0
  exact ⟨rfl, by have q := K3.out; rw [HF.out] at q; exact q.done⟩
 case inr =>
  have H1 := Lib.hid h1
  clear h1
  have e1 : tF = sendM t ip ⟨0, tp, (!fw), fw, fw, false, false, 0, 0, 0, 0, 0, (IntKind.u16.wrap (ageL t.s.po)), (IntKind.u16.wrap t.s.cf.p1), (IntKind.u16.wrap t.s.cf.p2), (IntKind.u16.wrap t.s.cf.p3)⟩ := by
   rw [HTF.out]; unfold tellM; rw [HX.out]; show sendM t ip (tellQ t x) = _; unfold tellQ; rw [HTP.out, HFW.out]; simp [H1.out]
  have HE1 := Lib.hid e1
  clear e1
  refine rk (fun (_ : Unit) => [pT b 0, iV (ip : Nat), pT b1 20, iV x.p20, .bool tp, pT b1 11, iV x.p11, .bool (!fw), pT b1 11, iV x.p11, .bool false, .bool false, pT b1 11, iV x.p11, .bool fw, .bool fw, pT b1 11, iV x.p11, .bool fw, pT b 0, iV (ageL t.s.po), .int .u16 (IntKind.u16.wrap (ageL t.s.po)), pT b 0, pT b 0, pT b 0, pT b 0, pT b 1, iV t.s.cf.p1, .int .u16 (IntKind.u16.wrap t.s.cf.p1), pT b 0, pT b 0, pT b 0, pT b 0, pT b 2, iV t.s.cf.p2, .int .u16 (IntKind.u16.wrap t.s.cf.p2), pT b 0, pT b 0, pT b 0, pT b 0, pT b 3, iV t.s.cf.p3, .int .u16 (IntKind.u16.wrap t.s.cf.p3), .agg (pdA ⟨0, tp, (!fw), fw, fw, false, false, 0, 0, 0, 0, 0, (IntKind.u16.wrap (ageL t.s.po)), (IntKind.u16.wrap t.s.cf.p1), (IntKind.u16.wrap t.s.cf.p2), (IntKind.u16.wrap t.s.cf.p3)⟩), .tuple #[]]) (fun _ Lx w' => Ta ⟨w, ⟨T, b, some ⟨g, 0, none⟩, n, m, v2, v3, v4⟩, F⟩ [(b1, poA x, 73)] (bif Lx 44 then tF else t) w') (()) [] [] [(3, fun _ => [(15, pT b1 20)]), (4, fun _ => [(16, iV x.p20)]), (6, fun _ => [(18, pT b1 11)]), (7, fun _ => [(19, iV x.p11)]), (9, fun _ => [(21, pT b1 11)]), (10, fun _ => [(22, iV x.p11)]), (13, fun _ => [(25, pT b1 11)]), (14, fun _ => [(26, iV x.p11)]), (17, fun _ => [(29, pT b1 11)]), (18, fun _ => [(30, iV x.p11)]), (20, fun _ => [(32, pT b 0)]), (21, fun _ => [(33, iV (ageL t.s.po))]), (27, fun _ => [(39, pT b 1)]), (28, fun _ => [(40, iV t.s.cf.p1)]), (34, fun _ => [(46, pT b 2)]), (35, fun _ => [(47, iV t.s.cf.p2)]), (41, fun _ => [(53, pT b 3)]), (42, fun _ => [(54, iV t.s.cf.p3)]), (43, fun _ => [(17, .bool tp), (20, .bool (!fw)), (28, .bool fw), (31, .bool fw), (34, .int .u16 (IntKind.u16.wrap (ageL t.s.po))), (41, .int .u16 (IntKind.u16.wrap t.s.cf.p1)), (48, .int .u16 (IntKind.u16.wrap t.s.cf.p2)), (55, .int .u16 (IntKind.u16.wrap t.s.cf.p3))]), (44, fun _ => [(13, pT b 0), (14, iV (ip : Nat)), (56, .agg (pdA ⟨0, tp, (!fw), fw, fw, false, false, 0, 0, 0, 0, 0, (IntKind.u16.wrap (ageL t.s.po)), (IntKind.u16.wrap t.s.cf.p1), (IntKind.u16.wrap t.s.cf.p2), (IntKind.u16.wrap t.s.cf.p3)⟩))])] [44] (K2.out.drew) (fun _ _ _ _ => trivial) (fun _ L1 L2 _ e h => by (try dsimp only at h ⊢); rw [← e 44 (by decide)]; exact h) ?_ ?_
  ·
   refine ⟨?_, ?_, ?_, ?_, ?_, ?_, ?_, ?_, ?_, ?_, ?_, ?_, ?_, ?_, ?_, ?_, ?_, ?_, ?_, ?_, trivial⟩ <;> (rintro _ Lx w' hw hL haft hdc ρ hc hf hG hs o ho; cases ho; try dsimp only [pT, iV, seen] at hw hs)
   ·
    have hn44 : Lx 44 = false := nup (fun cq => hdc 4 (hdc 43 (hdc 44 cq 43 (by decide)) 4 (by decide)) 3 (by decide)) hL
    have hwo : Ta ⟨w, ⟨T, b, some ⟨g, 0, none⟩, n, m, v2, v3, v4⟩, F⟩ [(b1, poA x, 73)] (t) w' := by rw [hn44] at hw; exact hw
    exact sq (iV x.p20) (by have q : w'.cell? ⟨b1, 20, none⟩ = some (iV x.p20) := Ta.cell (i := 0) hwo rfl (by rfl); go_simp)
   ·
    exact sq (.bool tp) (by rw [show (Value.bool tp) = .bool (decide (0 < x.p20)) from by rw [HTP.out]]; go_simp)
   ·
    have hn44 : Lx 44 = false := nup (fun cq => hdc 7 (hdc 43 (hdc 44 cq 43 (by decide)) 7 (by decide)) 6 (by decide)) hL
    have hwo : Ta ⟨w, ⟨T, b, some ⟨g, 0, none⟩, n, m, v2, v3, v4⟩, F⟩ [(b1, poA x, 73)] (t) w' := by rw [hn44] at hw; exact hw
    exact sq (iV x.p11) (by have q : w'.cell? ⟨b1, 11, none⟩ = some (iV x.p11) := Ta.cell (i := 0) hwo rfl (by rfl); go_simp)
   ·
    exact sq (.bool (!fw)) (by rw [show (Value.bool (!fw)) = .bool (!decide (x.p11 = 2)) from by rw [HFW.out]]; go_simp; rfl)
   ·
    have hn44 : Lx 44 = false := nup (fun cq => hdc 10 (hdc 11 (hdc 15 (hdc 43 (hdc 44 cq 43 (by decide)) 15 (by decide)) 11 (by decide)) 10 (by decide)) 9 (by decide)) hL
    have hwo : Ta ⟨w, ⟨T, b, some ⟨g, 0, none⟩, n, m, v2, v3, v4⟩, F⟩ [(b1, poA x, 73)] (t) w' := by rw [hn44] at hw; exact hw
    exact sq (iV x.p11) (by have q : w'.cell? ⟨b1, 11, none⟩ = some (iV x.p11) := Ta.cell (i := 0) hwo rfl (by rfl); go_simp)
   ·
    exact sq (.bool false) (by have q := H1.out; go_simp)
   ·
    have hn44 : Lx 44 = false := nup (fun cq => hdc 14 (hdc 15 (hdc 43 (hdc 44 cq 43 (by decide)) 15 (by decide)) 14 (by decide)) 13 (by decide)) hL
    have hwo : Ta ⟨w, ⟨T, b, some ⟨g, 0, none⟩, n, m, v2, v3, v4⟩, F⟩ [(b1, poA x, 73)] (t) w' := by rw [hn44] at hw; exact hw
    exact sq (iV x.p11) (by have q : w'.cell? ⟨b1, 11, none⟩ = some (iV x.p11) := Ta.cell (i := 0) hwo rfl (by rfl); go_simp)
   ·
    exact sq (.bool fw) (by rw [show (Value.bool fw) = .bool (decide (x.p11 = 2)) from by rw [HFW.out]]; go_simp; rfl)
   ·
    have hn44 : Lx 44 = false := nup (fun cq => hdc 18 (hdc 43 (hdc 44 cq 43 (by decide)) 18 (by decide)) 17 (by decide)) hL
    have hwo : Ta ⟨w, ⟨T, b, some ⟨g, 0, none⟩, n, m, v2, v3, v4⟩, F⟩ [(b1, poA x, 73)] (t) w' := by rw [hn44] at hw; exact hw
    exact sq (iV x.p11) (by have q : w'.cell? ⟨b1, 11, none⟩ = some (iV x.p11) := Ta.cell (i := 0) hwo rfl (by rfl); go_simp)
   ·
    exact sq (.bool fw) (by rw [show (Value.bool fw) = .bool (decide (x.p11 = 2)) from by rw [HFW.out]]; go_simp; rfl)
   ·
    have hn44 : Lx 44 = false := nup (fun cq => hdc 21 (hdc 43 (hdc 44 cq 43 (by decide)) 21 (by decide)) 20 (by decide)) hL
    have hwo : Ta ⟨w, ⟨T, b, some ⟨g, 0, none⟩, n, m, v2, v3, v4⟩, F⟩ [(b1, poA x, 73)] (t) w' := by rw [hn44] at hw; exact hw
    exact sc (iV (ageL t.s.po)) 77 #[pT b 0] (by obtain ⟨tv2, fv2, q1, -, -⟩ := hwo.act; exact age_any q1) (by go_simp) (fun w2 hb => ⟨(), fun _ _ => rfl, rfl, hw.next hb⟩)
   ·
    exact sq (.int .u16 (IntKind.u16.wrap (ageL t.s.po)))
   ·
    have hn44 : Lx 44 = false := nup (fun cq => hdc 28 (hdc 43 (hdc 44 cq 43 (by decide)) 28 (by decide)) 27 (by decide)) hL
    have hwo : Ta ⟨w, ⟨T, b, some ⟨g, 0, none⟩, n, m, v2, v3, v4⟩, F⟩ [(b1, poA x, 73)] (t) w' := by rw [hn44] at hw; exact hw
    exact sq (iV t.s.cf.p1) (by have q : w'.cell? ⟨b, 1, none⟩ = some (iV t.s.cf.p1) := hwo.acell 1 rfl; go_simp)
   ·
    exact sq (.int .u16 (IntKind.u16.wrap t.s.cf.p1))
   ·
    have hn44 : Lx 44 = false := nup (fun cq => hdc 35 (hdc 43 (hdc 44 cq 43 (by decide)) 35 (by decide)) 34 (by decide)) hL
    have hwo : Ta ⟨w, ⟨T, b, some ⟨g, 0, none⟩, n, m, v2, v3, v4⟩, F⟩ [(b1, poA x, 73)] (t) w' := by rw [hn44] at hw; exact hw
    exact sq (iV t.s.cf.p2) (by have q : w'.cell? ⟨b, 2, none⟩ = some (iV t.s.cf.p2) := hwo.acell 2 rfl; go_simp)
   ·
    exact sq (.int .u16 (IntKind.u16.wrap t.s.cf.p2))
   ·
    have hn44 : Lx 44 = false := nup (fun cq => hdc 42 (hdc 43 (hdc 44 cq 43 (by decide)) 42 (by decide)) 41 (by decide)) hL
    have hwo : Ta ⟨w, ⟨T, b, some ⟨g, 0, none⟩, n, m, v2, v3, v4⟩, F⟩ [(b1, poA x, 73)] (t) w' := by rw [hn44] at hw; exact hw
    exact sq (iV t.s.cf.p3) (by have q : w'.cell? ⟨b, 3, none⟩ = some (iV t.s.cf.p3) := hwo.acell 3 rfl; go_simp)
   ·
    exact sq (.int .u16 (IntKind.u16.wrap t.s.cf.p3))
   ·
    obtain ⟨e17, e20, e28, e31, e34, e41, e48, e55, _⟩ := hs
    exact sq (.agg (pdA ⟨0, tp, (!fw), fw, fw, false, false, 0, 0, 0, 0, 0, (IntKind.u16.wrap (ageL t.s.po)), (IntKind.u16.wrap t.s.cf.p1), (IntKind.u16.wrap t.s.cf.p2), (IntKind.u16.wrap t.s.cf.p3)⟩)) (l_build 61 [(1, .tmp 17), (2, .tmp 20), (3, .tmp 28), (4, .tmp 31), (12, .tmp 34), (13, .tmp 41), (14, .tmp 48), (15, .tmp 55)] rfl _ (pdA ⟨0, tp, (!fw), fw, fw, false, false, 0, 0, 0, 0, 0, (IntKind.u16.wrap (ageL t.s.po)), (IntKind.u16.wrap t.s.cf.p1), (IntKind.u16.wrap t.s.cf.p2), (IntKind.u16.wrap t.s.cf.p3)⟩) (by simp only [List.map_cons, List.map_nil, e17, e20, e28, e31, e34, e41, e48, e55]; rfl) (by kernel_rfl))
   ·
    have hw0 : Ta ⟨w, ⟨T, b, some ⟨g, 0, none⟩, n, m, v2, v3, v4⟩, F⟩ [(b1, poA x, 73)] (t) w' := by rw [hL] at hw; exact hw
    exact sc (B := fun w2 => Ta ⟨w, ⟨T, b, some ⟨g, 0, none⟩, n, m, v2, v3, v4⟩, F⟩ [(b1, poA x, 73)] tF w2) (.tuple #[]) 61 #[pT b 0, iV (ip : Nat), .agg (pdA ⟨0, tp, (!fw), fw, fw, false, false, 0, 0, 0, 0, 0, (IntKind.u16.wrap (ageL t.s.po)), (IntKind.u16.wrap t.s.cf.p1), (IntKind.u16.wrap t.s.cf.p2), (IntKind.u16.wrap t.s.cf.p3)⟩)] (by obtain ⟨tv2, fv2, q1, q2, q3⟩ := hw0.act; rw [HE1.out]; exact (send_any ⟨0, tp, (!fw), fw, fw, false, false, 0, 0, 0, 0, 0, (IntKind.u16.wrap (ageL t.s.po)), (IntKind.u16.wrap t.s.cf.p1), (IntKind.u16.wrap t.s.cf.p2), (IntKind.u16.wrap t.s.cf.p3)⟩ q1 HX.out HRR.out HTL.out).mono fun e w2 ⟨he, tv', fv', k1, k2, k3⟩ => ⟨he, hw0.act_step q1 q2 q3 k1 k2 k3⟩) (by go_simp) (fun w2 hb => ⟨(), fun _ _ => rfl, rfl, hb⟩)
  intro _ Lx w3 hw hall
  try dsimp only at hw
  simp only [pT, iV, List.toList_toArray, putsZ_some, putsZ_none, putsZ_nil, List.setIfInBounds_toArray, List.set_cons_zero, List.set_cons_succ]
  rw [hall 44 (by decide)] at hw
  simp only [cond_true] at hw
  have K3 := Lib.hid hw
  clear hw hall
  go_wp2_with fail
  go_end0
  exact ⟨rfl, by have q := K3.out; rw [HF.out] at q; exact q.done⟩
end
section
open Go.RowKit
attribute [local irreducible] wpQuiet wpList
theorem on_is (x : Po) (b : Bool) (h : onP x = b) (w : World) : Calls Tryd.prog 20 #[poV x] w fun e w' => e = .returned (.bool b) ∧ Below w.heap.size w w' := h ▸ on_any x w
def anewB (x : Po) (u v : Vc) : Bool := decide (x.p12 = 2) && (decide (v.b = u.b) && decide (v.p = u.p))
def takesB (x : Po) (u v : Vc) : Bool := anewB x u v || (lessV v u || decide (x.p12 = 0))
end
section
open Go.RowKit
attribute [local irreducible] wpQuiet wpList
def fadeP (x : Po) : Po := if x.p12 = 2 then (if 1 < x.p18 then { x with p18 := IntKind.i64.wrap (x.p18 - 1) } else { x with p12 := 0, p13 := 0, p14 := 0, p15 := 0, p16 := 0, p17 := 0, p18 := 0 }) else x
def fadeB (x : Po) : Bool := decide (x.p12 = 2) && !decide (1 < x.p18)
set_option maxRecDepth 100000 in
set_option maxHeartbeats 8000000 in
theorem fade_any (x : Po) (w : World) : Calls Tryd.prog 37 #[poV x] w fun e w' => e = .returned (.tuple #[poV (fadeP x), .bool (fadeB x)]) ∧ Below w.heap.size w w' := by
 by_cases hi : x.p12 = 2
 case neg =>
  have hP : fadeP x = x := by unfold fadeP; rw [if_neg hi]
  have hN : fadeB x = false := by simp [fadeB, hi]
  rw [hP, hN]
  clear hP hN
  obtain ⟨A, hA⟩ : ∃ A, A = x := ⟨_, rfl⟩
  rw [show poV x = .agg (poA x) from rfl]
  have K := Lib.hid (Kb.nil w)
  go_enter Tryd.func37, Tryd.ntmps37
  go_upto_region 0 with fail
  refine wp_region_lit ?_
  refine kb_box K.out 73 (.tmp 0) (poA x) rfl rfl (by rfl) (pz (h := ?_))
  intro b1 w1 K1
  refine kb_alloc K1.out 73 (nil21) rfl z50 (by rfl) (pz (h := ?_))
  intro b2 w2 K2
  refine wz1 (.bool false) (h := nz ?_)
  go_upto_region 1 with fail
  refine lz (wz3 (pT b1 12) (iV x.p12) (.bool true) (h2 := by have q : w2.cell? ⟨b1, 12, none⟩ = some (iV x.p12) := K2.out.cell (i := 0) rfl (by rfl); go_simp) (h3 := by have q := hi; go_simp) (h := nz ?_))
  go_upto_region 2 with fail
  refine lz (wz1 (.agg (poA x)) (h1 := by exact kb_all K2.out 0 rfl 73 _ rfl rfl Tryd.underlying73 rfl (size50)) (h := ?_))
  refine kb_row K2.out 1 rfl 73 _ _ (poA x) rfl rfl rfl rfl (size50) (by rfl) (po_all _) (py (h := ?_))
  intro w3 K3
  refine wz1 (.bool false) (h := nz ?_)
  go_wp2_with fail
  refine bodyPost_ret (v := .tuple #[.agg (poA x), .bool false]) (results_row_tmp Tryd.results37 _ _ b2 73 (poA x) (.bool false) _ rfl rfl (K3.out.at (i := 1) rfl) Tryd.underlying73 rfl (po_info _)) rfl ?_
  exact ⟨rfl, K3.out.below⟩
 case pos =>
  by_cases hl : 1 < x.p18
  case pos =>
   have hP : fadeP x = { x with p18 := (IntKind.i64.wrap (x.p18 - 1)) } := by unfold fadeP; rw [if_pos hi, if_pos hl]
   have hN : fadeB x = false := by simp [fadeB, hi, hl]
   rw [hP, hN]
   clear hP hN
   obtain ⟨A, hA⟩ : ∃ A, A = x := ⟨_, rfl⟩
   rw [show poV x = .agg (poA x) from rfl]
   have K := Lib.hid (Kb.nil w)
   go_enter Tryd.func37, Tryd.ntmps37
   go_upto_region 0 with fail
   refine wp_region_lit ?_
   refine kb_box K.out 73 (.tmp 0) (poA x) rfl rfl (by rfl) (pz (h := ?_))
   intro b1 w1 K1
   refine kb_alloc K1.out 73 (nil21) rfl z50 (by rfl) (pz (h := ?_))
   intro b2 w2 K2
   refine wz1 (.bool false) (h := nz ?_)
   go_upto_region 1 with fail
   refine lz (wz3 (pT b1 12) (iV x.p12) (.bool false) (h2 := by have q : w2.cell? ⟨b1, 12, none⟩ = some (iV x.p12) := K2.out.cell (i := 0) rfl (by rfl); go_simp) (h3 := by have q := hi; go_simp) (h := nz ?_))
   go_upto_region 3 with fail
   refine lz (wz3 (pT b1 18) (iV x.p18) (.bool true) (h2 := by have q : w2.cell? ⟨b1, 18, none⟩ = some (iV x.p18) := K2.out.cell (i := 0) rfl (by rfl); go_simp) (h3 := by have q := hl; go_simp) (h := nz ?_))
   go_upto_region 4 with fail
   refine lz (wz4 (pT b1 18) (iV x.p18) (iV (IntKind.i64.wrap (x.p18 - 1))) (pT b1 18) (h2 := by have q : w2.cell? ⟨b1, 18, none⟩ = some (iV x.p18) := K2.out.cell (i := 0) rfl (by rfl); go_simp) (h := ?_))
   refine kb_set K2.out 0 rfl 3 _ _ 18 (.int .i64 (IntKind.i64.wrap (x.p18 - 1))) rfl (by rfl) rfl rfl (kb_run_set K2.out (i := 0) rfl 3 18 (.int .i64 x.p18) (.int .i64 (IntKind.i64.wrap (x.p18 - 1))) (by rfl) (fun W h1 h2 => by go_simp)) (poA { x with p18 := (IntKind.i64.wrap (x.p18 - 1)) }) (by kernel_rfl) (py (h := ?_))
   intro w3 K3
   refine wpList_nil ?_
   go_upto_region 5 with fail
   refine lz (wz1 (.agg (poA { x with p18 := (IntKind.i64.wrap (x.p18 - 1)) })) (h1 := by exact kb_all K3.out 0 rfl 73 _ rfl rfl Tryd.underlying73 rfl (size50)) (h := ?_))
   refine kb_row K3.out 1 rfl 73 _ _ (poA { x with p18 := (IntKind.i64.wrap (x.p18 - 1)) }) rfl rfl rfl rfl (size50) (by rfl) (po_all _) (py (h := ?_))
   intro w4 K4
   refine wz1 (.bool false) (h := nz ?_)
   go_wp2_with fail
   refine bodyPost_ret (v := .tuple #[.agg (poA { x with p18 := (IntKind.i64.wrap (x.p18 - 1)) }), .bool false]) (results_row_tmp Tryd.results37 _ _ b2 73 (poA { x with p18 := (IntKind.i64.wrap (x.p18 - 1)) }) (.bool false) _ rfl rfl (K4.out.at (i := 1) rfl) Tryd.underlying73 rfl (po_info _)) rfl ?_
   exact ⟨rfl, K4.out.below⟩
  case neg =>
   have hP : fadeP x = { x with p12 := 0, p13 := 0, p14 := 0, p15 := 0, p16 := 0, p17 := 0, p18 := 0 } := by unfold fadeP; rw [if_pos hi, if_neg hl]
   have hN : fadeB x = true := by simp [fadeB, hi, hl]
   rw [hP, hN]
   clear hP hN
   obtain ⟨A, hA⟩ : ∃ A, A = x := ⟨_, rfl⟩
   rw [show poV x = .agg (poA x) from rfl]
   have K := Lib.hid (Kb.nil w)
   go_enter Tryd.func37, Tryd.ntmps37
   go_upto_region 0 with fail
   refine wp_region_lit ?_
   refine kb_box K.out 73 (.tmp 0) (poA x) rfl rfl (by rfl) (pz (h := ?_))
   intro b1 w1 K1
   refine kb_alloc K1.out 73 (nil21) rfl z50 (by rfl) (pz (h := ?_))
   intro b2 w2 K2
   refine wz1 (.bool false) (h := nz ?_)
   go_upto_region 1 with fail
   refine lz (wz3 (pT b1 12) (iV x.p12) (.bool false) (h2 := by have q : w2.cell? ⟨b1, 12, none⟩ = some (iV x.p12) := K2.out.cell (i := 0) rfl (by rfl); go_simp) (h3 := by have q := hi; go_simp) (h := nz ?_))
   go_upto_region 3 with fail
   refine lz (wz3 (pT b1 18) (iV x.p18) (.bool false) (h2 := by have q : w2.cell? ⟨b1, 18, none⟩ = some (iV x.p18) := K2.out.cell (i := 0) rfl (by rfl); go_simp) (h3 := by have q := hl; go_simp) (h := nz ?_))
   go_upto_region 6 with fail
   refine lz (wz2 (.agg (nil4)) (pT b1 12) (h1 := by exact run_build_of 71 [] rfl [] nil4 rfl (by kernel_rfl)) (h := ?_))
   refine kb_set K2.out 0 rfl 3 _ _ 12 (.int .i64 0) rfl (by rfl) rfl rfl (kb_run_set K2.out (i := 0) rfl 3 12 (.int .i64 x.p12) (.int .i64 0) (by rfl) (fun W h1 h2 => by go_simp)) (poA { x with p12 := 0 }) (by kernel_rfl) (py (h := ?_))
   intro w3 K3
   refine wz1 (pT b1 13) (h := ?_)
   refine kb_mid K3.out 0 rfl 71 _ _ 13 (nil4) rfl rfl rfl rfl (sizeV) (Nat.le_of_ble_eq_true (by kernel_rfl)) (by kernel_rfl) (poA { x with p12 := 0, p13 := 0, p14 := 0, p15 := 0, p16 := 0 }) (by kernel_rfl) (py (h := ?_))
   intro w4 K4
   refine wz1 (pT b1 17) (h := ?_)
   refine kb_set K4.out 0 rfl 3 _ _ 17 (.int .i64 0) rfl (by rfl) rfl rfl (kb_run_set K4.out (i := 0) rfl 3 17 (.int .i64 x.p17) (.int .i64 0) (by rfl) (fun W h1 h2 => by go_simp)) (poA { x with p12 := 0, p13 := 0, p14 := 0, p15 := 0, p16 := 0, p17 := 0 }) (by kernel_rfl) (py (h := ?_))
   intro w5 K5
   refine wz1 (pT b1 18) (h := ?_)
   refine kb_set K5.out 0 rfl 3 _ _ 18 (.int .i64 0) rfl (by rfl) rfl rfl (kb_run_set K5.out (i := 0) rfl 3 18 (.int .i64 x.p18) (.int .i64 0) (by rfl) (fun W h1 h2 => by go_simp)) (poA { x with p12 := 0, p13 := 0, p14 := 0, p15 := 0, p16 := 0, p17 := 0, p18 := 0 }) (by kernel_rfl) (py (h := ?_))
   intro w6 K6
   refine wpList_nil ?_
   go_upto_region 7 with fail
   refine lz (wz1 (.agg (poA { x with p12 := 0, p13 := 0, p14 := 0, p15 := 0, p16 := 0, p17 := 0, p18 := 0 })) (h1 := by exact kb_all K6.out 0 rfl 73 _ rfl rfl Tryd.underlying73 rfl (size50)) (h := ?_))
   refine kb_row K6.out 1 rfl 73 _ _ (poA { x with p12 := 0, p13 := 0, p14 := 0, p15 := 0, p16 := 0, p17 := 0, p18 := 0 }) rfl rfl rfl rfl (size50) (by rfl) (po_all _) (py (h := ?_))
   intro w7 K7
   refine wz1 (.bool true) (h := nz ?_)
   go_wp2_with fail
   refine bodyPost_ret (v := .tuple #[.agg (poA { x with p12 := 0, p13 := 0, p14 := 0, p15 := 0, p16 := 0, p17 := 0, p18 := 0 }), .bool true]) (results_row_tmp Tryd.results37 _ _ b2 73 (poA { x with p12 := 0, p13 := 0, p14 := 0, p15 := 0, p16 := 0, p17 := 0, p18 := 0 }) (.bool true) _ rfl rfl (K7.out.at (i := 1) rfl) Tryd.underlying73 rfl (po_info _)) rfl ?_
   exact ⟨rfl, K7.out.below⟩
end
section
open Go.RowKit
attribute [local irreducible] wpQuiet wpList
def mapStep (f : Nat → Po → Po) (t : TS) (k : Nat) : TS := match t.s.po[k]? with
 | some x => t.setPo (t.s.po.set k (f k x))
 | none => t
def mapTo (f : Nat → Po → Po) (t : TS) : Nat → TS
 | 0 => t
 | k + 1 => mapStep f (mapTo f t k) k
theorem mapStep_some {f : Nat → Po → Po} {t : TS} {k : Nat} {x : Po} (h : t.s.po[k]? = some x) : mapStep f t k = t.setPo (t.s.po.set k (f k x)) := by
 unfold mapStep
 rw [h]
theorem mapStep_is (f : Nat → Po → Po) (t : TS) (k : Nat) : (mapStep f t k).s.po.length = t.s.po.length ∧ (mapStep f t k).s.cf = t.s.cf ∧ (mapStep f t k).fl = t.fl ∧ (mapStep f t k).told = t.told := by
 unfold mapStep
 split
 ·
  refine ⟨?_, rfl, rfl, rfl⟩
  show (t.s.po.set k _).length = _
  rw [List.length_set]
 ·
  exact ⟨rfl, rfl, rfl, rfl⟩
theorem mapTo_is (f : Nat → Po → Po) (t : TS) : ∀ k, (mapTo f t k).s.po.length = t.s.po.length ∧ (mapTo f t k).s.cf = t.s.cf ∧ (mapTo f t k).fl = t.fl ∧ (mapTo f t k).told = t.told
 | 0 => ⟨rfl, rfl, rfl, rfl⟩
 | k + 1 => by
  have a := mapTo_is f t k
  have b := mapStep_is f (mapTo f t k) k
  exact ⟨b.1.trans a.1, b.2.1.trans a.2.1, b.2.2.1.trans a.2.2.1, b.2.2.2.trans a.2.2.2⟩
theorem mapTo_get (f : Nat → Po → Po) (t : TS) (j : Nat) : ∀ k, (mapTo f t k).s.po[j]? = if j < k then (t.s.po[j]?).map (f j) else t.s.po[j]?
 | 0 => by rw [if_neg (Nat.not_lt_zero _)]; rfl
 | k + 1 => by
  have a := mapTo_get f t j k
  show (mapStep f (mapTo f t k) k).s.po[j]? = _
  cases c : (mapTo f t k).s.po[k]? with
  | none =>
   unfold mapStep
   rw [c]
   show (mapTo f t k).s.po[j]? = _
   rw [a]
   by_cases e : j = k
   ·
    subst e
    rw [if_neg (Nat.lt_irrefl _)] at a ⊢
    rw [c] at a
    rw [if_pos (Nat.lt_succ_self _), ← a]
    rfl
   ·
    by_cases q : j < k
    ·
     rw [if_pos q, if_pos (by omega)]
    ·
     rw [if_neg q, if_neg (by omega)]
  | some x =>
   rw [mapStep_some c]
   show ((mapTo f t k).s.po.set k (f k x))[j]? = _
   by_cases e : j = k
   ·
    subst e
    have hl : j < (mapTo f t j).s.po.length := (List.getElem?_eq_some_iff.1 c).1
    rw [List.getElem?_set_self hl, if_pos (Nat.lt_succ_self _)]
    rw [if_neg (Nat.lt_irrefl _), c] at a
    rw [← a]
    rfl
   ·
    rw [List.getElem?_set_ne (fun h => e h.symm), a]
    by_cases q : j < k
    ·
     rw [if_pos q, if_pos (by omega)]
    ·
     rw [if_neg q, if_neg (by omega)]
theorem set_same {l : List Po} {k : Nat} {x : Po} (h : l[k]? = some x) : l.set k x = l := by
 refine List.ext_getElem? fun j => ?_
 by_cases e : k = j
 ·
  subst e
  rw [List.getElem?_set_self (List.getElem?_eq_some_iff.1 h).1, h]
 ·
  rw [List.getElem?_set_ne e]
def tick1 (x : Po) : Po := if 0 < x.p20 then { x with p20 := IntKind.i64.wrap (x.p20 - 1) } else x
def fadeM (t : TS) : TS := mapTo (fun _ x => tick1 (fadeP x)) t t.s.po.length
def agrQ : Pd := ⟨0, false, false, false, false, true, false, 0, 0, 0, 0, 0, 0, 0, 0, 0⟩
def blkF (i : Nat) (dl : Int) (k : Nat) (x : Po) : Po := if k = i then x else blockP x dl
def answerM (t : TS) (i : Nat) : TS := match t.s.po[i]? with
 | some x => if x.p10 = 3 ∨ x.p10 = 1 ∨ x.p10 = 2 then sendM (mapTo (blkF i t.s.cf.p3) t t.s.po.length) i agrQ else t
 | none => t
end
section
open Go.RowKit
structure Mk (w : World) (b : Nat) (s0 s1 : Value) (l0 l1 : List Int) : Prop where
 blk : Blk w b #[s0, s1] 138
 o0 : Own w 0 3 1 inC s0 l0
 o1 : Own w 0 3 1 inC s1 l1
 b0 : s0.ownBlock ≠ some b
 b1 : s1.ownBlock ≠ some b
 a01 : ∀ k, s0.ownBlock = some k → s1.ownBlock ≠ some k
def footM (b : Nat) (s0 s1 : Value) (k : Nat) : Prop := k = b ∨ s0.ownBlock = some k ∨ s1.ownBlock = some k
section
variable {w w' : World} {b : Nat} {s0 s1 vS vR : Value} {l0 l1 : List Int}
theorem Mk.lt (h : Mk w b s0 s1 l0 l1) {k : Nat} (hk : footM b s0 s1 k) : k < w.heap.size := by
 rcases hk with rfl | e | e
 ·
  exact h.blk.lt
 ·
  exact (h.o0.lt k e).2
 ·
  exact (h.o1.lt k e).2
theorem Mk.fr {F : Nat → Prop} (h : Mk w b s0 s1 l0 l1) (hf : Mv F w w') (hn : ∀ k, footM b s0 s1 k → ¬ F k) : Mk w' b s0 s1 l0 l1 :=
 ⟨h.blk.fr hf (hn b (.inl rfl)), h.o0.fr hf (fun k e => hn k (.inr (.inl e))), h.o1.fr hf (fun k e => hn k (.inr (.inr e))), h.b0, h.b1, h.a01⟩
def DoneM (w : World) (b : Nat) (s0 s1 : Value) (l0' l1' : List Int) (w' : World) : Prop :=
 ∃ s0' s1', Mk w' b s0' s1' l0' l1' ∧ Mv (footM b s0 s1) w w' ∧ ∀ k, footM b s0' s1' k → footM b s0 s1 k ∨ w.heap.size ≤ k
theorem Mk.same (h : Mk w b s0 s1 l0 l1) : DoneM w b s0 s1 l0 l1 w := ⟨s0, s1, h, Mv.refl _ _, fun k e => .inl e⟩
theorem Mk.app0 {x : Int} (h : Mk w b s0 s1 l0 l1) (hp : ApW w 0 3 1 inC s0 l0 x true true vS vR w') : DoneM w b s0 s1 (l0 ++ [x]) l1 (w'.setCell ⟨b, 0, none⟩ vR) := by
 have hf1 : Mv (fun k => s0.ownBlock = some k) w w' := Mv.grown hp.g
 have hR : ∀ k, vR.ownBlock = some k → s0.ownBlock = some k ∨ w.heap.size ≤ k := hp.pb rfl
 have hRb : vR.ownBlock ≠ some b := fun e => by
  rcases hR _ e with q | q
  ·
   exact h.b0 q
  ·
   have := h.blk.lt; omega
 have hs : Mv (fun k => k = b) w' (w'.setCell ⟨b, 0, none⟩ vR) := Mv.setCell w' b 0 vR
 have kb : Blk w' b #[s0, s1] 138 := h.blk.fr hf1 h.b0
 refine ⟨vR, s1, ⟨kb.set 0 vR, (hp.pr rfl).fr hs (fun k e e2 => hRb (e2 ▸ e)), (h.o1.fr hf1 (fun k e e2 => h.a01 k e2 e)).fr hs (fun k e e2 => h.b1 (e2 ▸ e)), hRb, h.b1, fun k e1 e2 => ?_⟩,
  (hf1.mono (fun k e => (.inr (.inl e) : footM b s0 s1 k))).trans hs (fun k _ e => .inl e), fun k hk => ?_⟩
 ·
  rcases hR k e1 with q | q
  ·
   exact h.a01 k q e2
  ·
   have := (h.o1.lt k e2).2; omega
 ·
  rcases hk with e | e | e
  ·
   exact .inl (.inl e)
  ·
   rcases hR k e with q | q
   ·
    exact .inl (.inr (.inl q))
   ·
    exact .inr q
  ·
   exact .inl (.inr (.inr e))
theorem Mk.app1 {x : Int} (h : Mk w b s0 s1 l0 l1) (hp : ApW w 0 3 1 inC s1 l1 x true true vS vR w') : DoneM w b s0 s1 l0 (l1 ++ [x]) (w'.setCell ⟨b, 1, none⟩ vR) := by
 have hf1 : Mv (fun k => s1.ownBlock = some k) w w' := Mv.grown hp.g
 have hR : ∀ k, vR.ownBlock = some k → s1.ownBlock = some k ∨ w.heap.size ≤ k := hp.pb rfl
 have hRb : vR.ownBlock ≠ some b := fun e => by
  rcases hR _ e with q | q
  ·
   exact h.b1 q
  ·
   have := h.blk.lt; omega
 have hs : Mv (fun k => k = b) w' (w'.setCell ⟨b, 1, none⟩ vR) := Mv.setCell w' b 1 vR
 have kb : Blk w' b #[s0, s1] 138 := h.blk.fr hf1 h.b1
 refine ⟨s0, vR, ⟨kb.set 1 vR, (h.o0.fr hf1 (fun k e e2 => h.a01 k e e2)).fr hs (fun k e e2 => h.b0 (e2 ▸ e)), (hp.pr rfl).fr hs (fun k e e2 => hRb (e2 ▸ e)), h.b0, hRb, fun k e1 e2 => ?_⟩,
  (hf1.mono (fun k e => (.inr (.inr e) : footM b s0 s1 k))).trans hs (fun k _ e => .inl e), fun k hk => ?_⟩
 ·
  rcases hR k e2 with q | q
  ·
   exact h.a01 k e1 q
  ·
   have := (h.o0.lt k e1).2; omega
 ·
  rcases hk with e | e | e
  ·
   exact .inl (.inl e)
  ·
   exact .inl (.inr (.inl e))
  ·
   rcases hR k e with q | q
   ·
    exact .inl (.inr (.inr q))
   ·
    exact .inr q
end
structure Tm (R : Tr) (l : List (Nat × Array Value × TypeId)) (b : Nat) (l0 l1 : List Int) (t : TS) (w : World) : Prop where
 ta : Ta R l t w
 mks : ∃ s0 s1, Mk w b s0 s1 l0 l1 ∧ ∀ k, footM b s0 s1 k → R.w0.heap.size ≤ k ∧ (∀ x ∈ l, x.1 ≠ k) ∧ ∀ tv fv, Tact w R.c tv fv t → ¬ foot R.c tv fv k
section
variable {R : Tr} {w w' : World} {l : List (Nat × Array Value × TypeId)} {b : Nat} {l0 l1 l0' l1' : List Int} {t t' : TS}
theorem Ta.away {G : Nat → Prop} (h : Ta R l t w) (hc : Mv G w w') (hG : ∀ k, k < w.heap.size → G k → R.w0.heap.size ≤ k ∧ (∀ x ∈ l, x.1 ≠ k) ∧ ∀ tv fv, Tact w R.c tv fv t → ¬ foot R.c tv fv k) : Ta R l t w' := by
 obtain ⟨tv, fv, h1, h2, h3⟩ := h.act
 refine ⟨fun x hx => (h.all x hx).fr hc (fun g => (hG _ (h.all x hx).lt g).2.1 x hx rfl), h.new, h.nd, h.fr.trans hc (fun k hk g => ?_), ⟨tv, fv, h1.fr hc (fun k hk g => (hG k (h1.lt hk) g).2.2 tv fv h1 hk) (fun g => ?_), h2, h3⟩, h.g0⟩
 ·
  have := (hG k (Nat.lt_of_lt_of_le hk h.fr.size) g).1; omega
 ·
  have := (hG 0 (Nat.lt_of_lt_of_le h.g0.2 h.fr.size) g).1
  have := h.g0.2
  omega
theorem tact_uniq {c : Cs} {tv fv tv' fv' : Value} (h : Tact w c tv fv t) (h' : Tact w c tv' fv' t') : tv = tv' ∧ fv = fv' := by
 have e := h.blk.symm.trans h'.blk
 injection e with e
 injection e with e _ _
 have e25 : (actA t c.v1 c.v2 c.v3 c.v4 tv fv)[25]? = (actA t' c.v1 c.v2 c.v3 c.v4 tv' fv')[25]? := by rw [e]
 have e26 : (actA t c.v1 c.v2 c.v3 c.v4 tv fv)[26]? = (actA t' c.v1 c.v2 c.v3 c.v4 tv' fv')[26]? := by rw [e]
 have a25 : (actA t c.v1 c.v2 c.v3 c.v4 tv fv)[25]? = some tv := rfl
 have b25 : (actA t' c.v1 c.v2 c.v3 c.v4 tv' fv')[25]? = some tv' := rfl
 have a26 : (actA t c.v1 c.v2 c.v3 c.v4 tv fv)[26]? = some fv := rfl
 have b26 : (actA t' c.v1 c.v2 c.v3 c.v4 tv' fv')[26]? = some fv' := rfl
 rw [a25, b25] at e25
 rw [a26, b26] at e26
 exact ⟨Option.some.inj e25, Option.some.inj e26⟩
theorem Tm.seg {tv fv : Value} (h : Tm R l b l0 l1 t w) (h1 : Tact w R.c tv fv t) (hd : Done w R.c tv fv t' w') : Tm R l b l0 l1 t' w' := by
 obtain ⟨s0, s1, m1, m2⟩ := h.mks
 obtain ⟨tv2, fv2, a1, a2, a3⟩ := h.ta.act
 obtain ⟨rfl, rfl⟩ := tact_uniq h1 a1
 obtain ⟨tv', fv', k1, k2, k3⟩ := hd
 refine ⟨h.ta.act_step a1 a2 a3 k1 k2 k3, s0, s1, m1.fr k2 (fun k hk => (m2 k hk).2.2 _ _ a1), fun k hk => ⟨(m2 k hk).1, (m2 k hk).2.1, fun tv3 fv3 hq hf => ?_⟩⟩
 obtain ⟨rfl, rfl⟩ := tact_uniq hq k1
 rcases k3 k hf with q | q
 ·
  exact (m2 k hk).2.2 _ _ a1 q
 ·
  have := m1.lt hk; omega
theorem Tm.marks {s0 s1 : Value} (h : Tm R l b l0 l1 t w) (h1 : Mk w b s0 s1 l0 l1) (h2 : ∀ k, footM b s0 s1 k → R.w0.heap.size ≤ k ∧ (∀ x ∈ l, x.1 ≠ k) ∧ ∀ tv fv, Tact w R.c tv fv t → ¬ foot R.c tv fv k) (hd : DoneM w b s0 s1 l0' l1' w') : Tm R l b l0' l1' t w' := by
 obtain ⟨s0', s1', k1, k2, k3⟩ := hd
 have ta := h.ta.away k2 (fun k _ hk => h2 k hk)
 obtain ⟨tv, fv, a1, a2, a3⟩ := h.ta.act
 have a1' : Tact w' R.c tv fv t := a1.fr k2 (fun k hk g => (h2 k g).2.2 tv fv a1 hk) (fun g => by have := (h2 0 g).1; have := h.ta.g0.2; omega)
 refine ⟨ta, s0', s1', k1, fun k hk => ⟨?_, fun x hx e => ?_, fun tv3 fv3 hq hf => ?_⟩⟩
 ·
  rcases k3 k hk with q | q
  ·
   exact (h2 k q).1
  ·
   exact Nat.le_trans h.ta.fr.size q
 ·
  rcases k3 k hk with q | q
  ·
   exact (h2 k q).2.1 x hx e
  ·
   have := (h.ta.all x hx).lt; omega
 ·
  obtain ⟨rfl, rfl⟩ := tact_uniq hq a1'
  rcases k3 k hk with q | q
  ·
   exact (h2 k q).2.2 _ _ a1 hf
  ·
   have := a1.lt hf; omega
end
section
variable {R : Tr} {w w1 : World} {l : List (Nat × Array Value × TypeId)} {b : Nat} {t : TS}
theorem ta_add2 {cs : Array Value} {ty : TypeId} (h0 : Ta R l t w1) (hb : Below w1.heap.size w1 w) (hk : Blk w b cs ty) (hB : w1.heap.size ≤ b) : Ta R (l ++ [(b, cs, ty)]) t w := by
 have h := h0.next hb
 obtain ⟨tv, fv, a1, -, -⟩ := h0.act
 have a2 := a1.fr (F := fun _ => False) (Mv.of_below hb) (fun _ _ e => e) (fun e => e)
 refine ta_add (B := 0) h hk (fun x hx e => ?_) (fun tv' fv' hq hf => ?_) (Nat.le_trans h0.fr.size hB)
 ·
  have := (h0.all x hx).lt; omega
 ·
  obtain ⟨rfl, rfl⟩ := tact_uniq hq a2
  have := a1.lt hf; omega
theorem Tm.start (h : Ta R (l ++ [(b, #[.slice none 0 0, .slice none 0 0], 138)]) t w) : Tm R l b [] [] t w := by
 have hm : (b, #[Value.slice none 0 0, Value.slice none 0 0], 138) ∈ l ++ [(b, #[Value.slice none 0 0, Value.slice none 0 0], 138)] := List.mem_append_right _ (List.mem_singleton.2 rfl)
 refine ⟨h.left, _, _, ⟨h.all _ hm, Own.nil _ _ _ _ _, Own.nil _ _ _ _ _, (fun e => by cases e), (fun e => by cases e), (fun k e => by cases e)⟩, fun k hk => ?_⟩
 have hkb : k = b := by
  rcases hk with e | e | e
  ·
   exact e
  ·
   cases e
  ·
   cases e
 subst hkb
 refine ⟨h.new _ hm, fun x hx e => ?_, fun tv fv hq hf => ?_⟩
 ·
  have := h.nd
  rw [List.map_append, List.nodup_append] at this
  exact this.2.2 x.1 (List.mem_map.2 ⟨x, hx, rfl⟩) k (by simp) e
 ·
  obtain ⟨tv', fv', a1, a2, -⟩ := h.act
  obtain ⟨rfl, rfl⟩ := tact_uniq hq a1
  exact a2 _ hm hf
end
end
section
open Go.RowKit
structure Bd where
 p : World → Prop
 f : Nat → Prop
 lt : ∀ {W : World} {k : Nat}, p W → f k → k < W.heap.size
 mv : ∀ {G : Nat → Prop} {W W' : World}, p W → Mv G W W' → (∀ k, f k → ¬ G k) → p W'
def Bd.nil : Bd := ⟨fun _ => True, fun _ => False, fun _ h => h.elim, fun _ _ _ => trivial⟩
def Bd.and (A B : Bd) : Bd := ⟨fun W => A.p W ∧ B.p W, fun k => A.f k ∨ B.f k, fun h k => k.elim (A.lt h.1) (B.lt h.2), fun h m n => ⟨A.mv h.1 m (fun k q => n k (.inl q)), B.mv h.2 m (fun k q => n k (.inr q))⟩⟩
def bdO {α : Type} (B : Nat) (e : TypeId) (size : Nat) (enc : α → List Value) (v : Value) (l : List α) : Bd :=
 ⟨fun W => Own W B e size enc v l, fun k => v.ownBlock = some k, fun h q => (h.lt _ q).2, fun h m n => h.fr m (fun k q => n k q)⟩
def bdS (B : Nat) (s : St) (v1 v2 v3 v4 : Value) : Bd :=
 ⟨fun W => OwS W B s v1 v2 v3 v4, fun k => v1.ownBlock = some k ∨ v2.ownBlock = some k ∨ v3.ownBlock = some k ∨ v4.ownBlock = some k,
  fun h q => by
   rcases q with q | q | q | q
   ·
    exact (h.o1.lt _ q).2
   ·
    exact (h.o2.lt _ q).2
   ·
    exact (h.o3.lt _ q).2
   ·
    exact (h.o4.lt _ q).2,
  fun h m n => ⟨h.o1.fr m (fun k q => n k (.inl q)), h.o2.fr m (fun k q => n k (.inr (.inl q))), h.o3.fr m (fun k q => n k (.inr (.inr (.inl q)))), h.o4.fr m (fun k q => n k (.inr (.inr (.inr q)))), h.few⟩⟩
structure Kx (w0 : World) (l : List (Nat × Array Value × TypeId)) (A : Bd) (w : World) : Prop where
 kb : Kb w0 l w
 a : A.p w
 ap : ∀ x ∈ l, ¬ A.f x.1
 nw : ∀ k, A.f k → w0.heap.size ≤ k
section
variable {w0 w w' w1 : World} {l l' : List (Nat × Array Value × TypeId)} {A A' : Bd} {b i : Nat} {cs : Array Value} {ty : TypeId}
theorem Kx.below (K : Kx w0 l A w) : Below w0.heap.size w0 w := K.kb.below
theorem Kx.start (K : Kb w0 l w) : Kx w0 l Bd.nil w := ⟨K, trivial, fun _ _ h => h, fun _ h => h.elim⟩
theorem Kx.next (K : Kx w0 l A w) (hb : Below w.heap.size w w') : Kx w0 l A w' := ⟨K.kb.next hb, A.mv K.a (Mv.of_below hb) (fun _ _ e => e), K.ap, K.nw⟩
theorem Kx.drew (K : Kx w0 l A w) : Kx w0 l A w.drew := K.next (Below.refl _ _).drew
theorem Kx.at (K : Kx w0 l A w) (e : l[i]? = some (b, cs, ty)) : Blk w b cs ty := K.kb.at e
theorem Kx.cell (K : Kx w0 l A w) (e : l[i]? = some (b, cs, ty)) {j : Nat} {v : Value} (hv : cs[j]? = some v) : w.cell? ⟨b, j, none⟩ = some v := K.kb.cell e hv
theorem Kx.left {r : List (Nat × Array Value × TypeId)} (K : Kx w0 (l ++ r) A w) : Kx w0 l A w := ⟨Kb.left K.kb, K.a, fun x hx => K.ap x (List.mem_append_left _ hx), K.nw⟩
theorem Kx.alloc (K : Kx w0 l A w) (cs : Array Value) (ty : TypeId) : Kx w0 (l ++ [(w.heap.size, cs, ty)]) A (w.alloc (.cells cs ty)) := by
 refine ⟨K.kb.alloc cs ty, A.mv K.a (Mv.of_below ((Below.refl _ _).alloc (Nat.le_refl _) _)) (fun _ _ e => e), fun x hx hf => ?_, K.nw⟩
 rcases List.mem_append.1 hx with hx | hx
 ·
  exact K.ap x hx hf
 ·
  rw [List.mem_singleton.1 hx] at hf
  exact Nat.lt_irrefl _ (A.lt K.a hf)
theorem Kx.put (K : Kx w0 l A w) (e : l[i]? = some (b, cs, ty)) (cs' : Array Value) (hk : Kb w0 (l.set i (b, cs', ty)) w') (hm : Mv (fun k => k = b) w w') : Kx w0 (l.set i (b, cs', ty)) A w' := by
 have hb : ¬ A.f b := K.ap _ (List.mem_of_getElem? e)
 refine ⟨hk, A.mv K.a hm (fun k hf e2 => hb (e2 ▸ hf)), fun x hx hf => ?_, K.nw⟩
 rcases List.mem_or_eq_of_mem_set hx with q | q
 ·
  exact K.ap x q hf
 ·
  rw [q] at hf; exact hb hf
theorem Kx.row (K : Kx w0 l A w) (e : l[i]? = some (b, cs, ty)) (cs' : Array Value) : Kx w0 (l.set i (b, cs', ty)) A (w.setRow b cs') := K.put e cs' (K.kb.row e cs') (Mv.setRow w b cs')
theorem Kx.set (K : Kx w0 l A w) (e : l[i]? = some (b, cs, ty)) (j : Nat) (v : Value) : Kx w0 (l.set i (b, cs.setIfInBounds j v, ty)) A (w.setCell ⟨b, j, none⟩ v) := K.put e _ (K.kb.set e j v) (Mv.setCell w b j v)
theorem Kx.mid (K : Kx w0 l A w) (e : l[i]? = some (b, cs, ty)) (o : Nat) (vs : List Value) : Kx w0 (l.set i (b, setL cs o vs, ty)) A (w.setCells b o vs) := K.put e _ (K.kb.mid e o vs) (Mv.setCells b vs o w)
theorem kx_cast {a c : List (Nat × Array Value × TypeId)} (K : Kx w0 a A w) (e : a = c) : Kx w0 c A w := e ▸ K
theorem Kx.renew (K : Kx w0 l A w) (hb : Below w.heap.size w w') (h : A'.p w') (hn : ∀ k, A'.f k → w.heap.size ≤ k) : Kx w0 l A' w' :=
 ⟨K.kb.next hb, h, fun x hx hf => by have := hn _ hf; have := (K.kb.all x hx).lt; omega, fun k hf => Nat.le_trans K.below.size (hn k hf)⟩
theorem Kx.more (K : Kx w0 l A w) (hb : Below w.heap.size w w') (h : A'.p w') (hn : ∀ k, A'.f k → w.heap.size ≤ k) : Kx w0 l (A.and A') w' := by
 have q := K.next hb
 refine ⟨q.kb, ⟨q.a, h⟩, fun x hx hf => ?_, fun k hf => ?_⟩
 ·
  rcases hf with hf | hf
  ·
   exact K.ap x hx hf
  ·
   have := hn _ hf; have := (K.kb.all x hx).lt; omega
 ·
  rcases hf with hf | hf
  ·
   exact K.nw k hf
  ·
   exact Nat.le_trans K.below.size (hn k hf)
theorem kx_add2 {cs : Array Value} {ty : TypeId} (h0 : Kx w0 l A w1) (hb : Below w1.heap.size w1 w) (hk : Blk w b cs ty) (hB : w1.heap.size ≤ b) : Kx w0 (l ++ [(b, cs, ty)]) A w := by
 have q := h0.next hb
 refine ⟨kb_add q.kb hk (fun x hx => by have := (h0.kb.all x hx).lt; omega) (Nat.le_trans h0.below.size hB), q.a, fun x hx hf => ?_, q.nw⟩
 rcases List.mem_append.1 hx with hx | hx
 ·
  exact h0.ap x hx hf
 ·
  rw [List.mem_singleton.1 hx] at hf
  have := A.lt h0.a hf
  have hf : b < w1.heap.size := this
  omega
theorem Kx.app {α : Type} {B size : Nat} {e : TypeId} {enc : α → List Value} {cur vS vR : Value} {L : List α} {x : α} (K : Kx w0 l (bdO B e size enc cur L) w) (h : ApW w B e size enc cur L x true true vS vR w') : Kx w0 l (bdO B e size enc vR (L ++ [x])) w' := by
 have hm : Mv (fun k => cur.ownBlock = some k) w w' := Mv.grown h.g
 have hb : ∀ k, vR.ownBlock = some k → cur.ownBlock = some k ∨ w.heap.size ≤ k := h.pb rfl
 refine ⟨⟨fun z hz => (K.kb.all z hz).fr hm (K.ap z hz), ?_, K.kb.new, K.kb.nd⟩, h.pr rfl, fun z hz hf => ?_, fun k hf => ?_⟩
 ·
  exact grownBelow K.below h.g (fun q hq => K.nw q hq) K.below.size
 ·
  rcases hb _ hf with q | q
  ·
   exact K.ap z hz q
  ·
   have := (K.kb.all z hz).lt; omega
 ·
  rcases hb _ hf with q | q
  ·
   exact K.nw k q
  ·
   exact Nat.le_trans K.below.size q
end
section
variable {P : Program} {ops : Array Oper} {Q : Exit → Act → World → Prop} {a : Act} {w w0 : World} {A : Bd} {rest : List Oper} {o : Oper} {l : List (Nat × Array Value × TypeId)} {b i : Nat} {cs : Array Value} {t0 : TypeId}
theorem kx_box (K : Kx w0 l A w) (ty : TypeId) (x : Operand) (cs : Array Value) (ho : o.op = .box ty x) (hx : a.eval x = .agg cs) (hw : Region.wanted o (yielded ops a.tmps) = true)
 (h : ∀ b w', b = w.heap.size → Kx w0 (l ++ [(b, cs, ty)]) A w' → wpList P ops Q rest (a.put o.dst (.pointer (some ⟨b, 0, none⟩))) w') : wpList P ops Q (o :: rest) a w := by
 refine BigFrame.wpList_want hw fun K' hK => ?_
 unfold Oper.wp execOp
 simp only [ho, hx, Instr.box, Sem.run_bind, newVar, Sem.run_pure]
 exact hK _ _ (h _ _ rfl (K.alloc cs ty))
theorem kx_alloc (K : Kx w0 l A w) (ty : TypeId) (z : Array Value) (ho : o.op = .alloc ty) (hz : ∀ W : World, (zeroValue ty).run P W = .ok (.agg z) W) (hw : Region.wanted o (yielded ops a.tmps) = true)
 (h : ∀ b w', b = w.heap.size → Kx w0 (l ++ [(b, z, ty)]) A w' → wpList P ops Q rest (a.put o.dst (.pointer (some ⟨b, 0, none⟩))) w') : wpList P ops Q (o :: rest) a w := by
 refine BigFrame.wpList_want hw fun K' hK => ?_
 unfold Oper.wp execOp
 simp only [ho, Instr.alloc, Sem.run_bind, hz, Result.andThen_ok, newVar, Sem.run_pure]
 exact hK _ _ (h _ _ rfl (K.alloc z ty))
theorem kx_row (K : Kx w0 l A w) (i : Nat) (e : l[i]? = some (b, cs, t0)) (ty : TypeId) (x y : Operand) (cs' : Array Value) (ho : o.op = .store ty x y) (hg : o.guard = none) (hx : a.eval x = .pointer (some ⟨b, 0, none⟩)) (hy : a.eval y = .agg cs')
 (hi : (P.info? ty).map (·.size) = some cs'.size) (hs : cs.size = cs'.size) (h1 : cs'.all (·.oneCell') = true)
 (h : ∀ w', Kx w0 (l.set i (b, cs', t0)) A w' → wpList P ops Q rest (a.put o.dst undef) w') : wpList P ops Q (o :: rest) a w :=
 wpList_store_row hg ty x y ho b cs' hx hy t0 cs (K.at e) hi hs h1 (h _ (K.row e cs'))
theorem kx_set (K : Kx w0 l A w) (i : Nat) (e : l[i]? = some (b, cs, t0)) (ty : TypeId) (x y : Operand) (j : Nat) (v : Value) (ho : o.op = .store ty x y) (hw : Region.wanted o (yielded ops a.tmps) = true) (hx : a.eval x = .pointer (some ⟨b, j, none⟩)) (hy : a.eval y = v)
 (hrun : (Instr.storeAt ty (.pointer (some ⟨b, j, none⟩)) v).run P w = .ok () (w.setCell ⟨b, j, none⟩ v)) (cs' : Array Value) (hc : cs.setIfInBounds j v = cs')
 (h : ∀ w', Kx w0 (l.set i (b, cs', t0)) A w' → wpList P ops Q rest (a.put o.dst undef) w') : wpList P ops Q (o :: rest) a w :=
 BigFrame.wpList_want hw fun K' hK => wp_store_cell ty x y ho ⟨b, j, none⟩ v hx hy hrun (hK _ _ (h _ (by rw [← hc]; exact K.set e j v)))
theorem kx_run_set (K : Kx w0 l A w) (e : l[i]? = some (b, cs, t0)) (ty : TypeId) (j : Nat) (u v : Value) (hu : cs[j]? = some u) (h : ∀ W : World, W.cell? ⟨b, j, none⟩ = some u → W.frozen? ⟨b, j, none⟩ = false → (Instr.storeAt ty (.pointer (some ⟨b, j, none⟩)) v).run P W = .ok () (W.setCell ⟨b, j, none⟩ v)) :
 (Instr.storeAt ty (.pointer (some ⟨b, j, none⟩)) v).run P w = .ok () (w.setCell ⟨b, j, none⟩ v) := h w (K.cell e hu) ((K.at e).free j)
theorem kx_call (K : Kx w0 l A w) (f : FuncId) (args : Array Value) (v : Value) (hw : Region.wanted o (yielded ops a.tmps) = true) (hv : (execOp a.eval o).run P w = .ok (.enter f args) w)
 (hc : Calls P f args w fun e w' => e = .returned v ∧ Below w.heap.size w w') (h : ∀ w', Kx w0 l A w' → wpList P ops Q rest (a.put o.dst v) w') : wpList P ops Q (o :: rest) a w :=
 BigFrame.wpList_want hw fun K' hK => by
  unfold Oper.wp
  simp only [hv, Oper.upon]
  exact hc.mono fun e w' ⟨he, hb⟩ => by subst he; exact hK _ _ (h w' (K.next hb))
theorem kx_all (K : Kx w0 l A w) (i : Nat) (e : l[i]? = some (b, cs, t0)) (ty : TypeId) (x : Operand) (ho : o.op = .load ty x) (hx : a.eval x = .pointer (some ⟨b, 0, none⟩)) {d : TypeDesc} (hu : P.underlying ty = some d)
 (hd : (match d with | .struct _ | .array _ _ => true | _ => false) = true) (hi : (P.info? ty).map (·.size) = some cs.size) : (execOp a.eval o).run P w = .ok (.value (.agg cs)) w :=
 run_loadVar_of ty x ho b hx t0 cs d (K.at e) hu hd hi
end
end
section
open Go.ChangeShapes Go.WideShapes Go.RowKit Go.Deep
def RowsAt {α : Type} (w : World) (A : Option Addr) (size : Nat) (enc : α → List Value) (l : List α) : Prop :=
 l = [] ∨ ∃ b off, A = some ⟨b, off, none⟩ ∧ b < w.heap.size ∧ ∀ (i : Nat) (x : α), l[i]? = some x → ∀ (j : Nat) (u : Value), (enc x)[j]? = some u → w.cell? ⟨b, off + (i * size + j), none⟩ = some u
theorem cell_spot {w : World} {x : Addr} {u : Value} (h : w.cell? x = some u) : x.spot = none ∧ x.block < w.heap.size := by
 unfold World.cell? at h
 split at h
 ·
  rename_i hb
  refine ⟨?_, (Array.getElem?_eq_some_iff.1 hb).1⟩
  split at h
  ·
   simp at h
  ·
   rename_i hs; simpa using hs
 ·
  simp at h
theorem add_none (b o n : Nat) : (⟨b, o, none⟩ : Addr).add n = ⟨b, o + n, none⟩ := by
 unfold Addr.add
 split <;> simp_all
theorem RowsAt.same {α : Type} {w w' : World} {A : Option Addr} {size : Nat} {enc : α → List Value} {l : List α} (h : RowsAt w A size enc l) (hb : Below w.heap.size w w') : RowsAt w' A size enc l := by
 rcases h with rfl | ⟨b, off, rfl, hlt, h⟩
 ·
  exact .inl rfl
 ·
  refine .inr ⟨b, off, rfl, Nat.lt_of_lt_of_le hlt hb.size, fun i x hx j u hu => ?_⟩
  have e := hb.block b hlt
  have := h i x hx j u hu
  unfold World.cell? at this ⊢
  rw [e]
  exact this
theorem open_rows {P : Program} {H : Type} {en : TypeId × Value → H} {w : World} {base : Nat} {spare : Nat → Bool} {held : Bool} {t e : TypeId} {size : Nat} {α : Type} {a : Option Addr} {len cap : Nat} {d : DataW H} {p : List MemPlace}
 (enc : α → List Value) (ok : α → Prop) (ht : P.underlying t = some (.slice e)) (hc : P.cellsOf e = size) (hs : 0 < size) (henc : ∀ x, (enc x).length = size)
 (each : ∀ (fuel : Nat) (cs : List Value) (y : DataW H × List MemPlace), cs.length = size → DataW.trod en P w base spare held fuel e cs = some y → ∃ x : α, cs = enc x ∧ ok x)
 (h : DataW.Trod en P w base spare held t (.slice a len cap) d p) :
 ∃ l : List α, l.length = len ∧ RowsAt w a size enc l ∧ (∀ x ∈ l, ok x) ∧ (len ≤ cap ∧ cap ≤ maxLen) ∧ (a = none → len = 0 ∧ cap = 0) := by
 obtain ⟨fuel, hf⟩ := h
 rcases open_slice ht hf with ⟨hcs, -⟩ | ⟨x, len', cap', m, n, D, Pl, hcs, -, hl, hm, hmm, -, hi⟩
 ·
  simp [Value.cells] at hcs
  obtain ⟨rfl, rfl, rfl⟩ := hcs
  exact ⟨[], rfl, .inl rfl, by simp, ⟨Nat.le_refl _, Nat.zero_le _⟩, fun _ => ⟨rfl, rfl⟩⟩
 ·
  simp [Value.cells] at hcs
  obtain ⟨rfl, rfl, rfl⟩ := hcs
  have hlm : len ≤ m := by rw [hmm]; split <;> omega
  rw [hc] at hi
  have key : ∀ i : Fin len, ∃ v : α, ok v ∧ ∀ (j : Nat) (u : Value), (enc v)[j]? = some u → w.cell? ((x.add (i * size)).add j) = some u := by
   intro ⟨i, hil⟩
   obtain ⟨cs', hcell, htr⟩ := hi i (by omega)
   obtain ⟨_, hcl, hat⟩ := World.cells?_some hcell
   obtain ⟨v, rfl, hok⟩ := each _ _ _ hcl htr
   refine ⟨v, hok, fun j u hu => ?_⟩
   have hj : j < size := by rw [← henc v]; exact (List.getElem?_eq_some_iff.1 hu).1
   have := hat j (by omega)
   rw [this]
   simpa [List.getElem?_eq_some_iff] using hu
  let f : Fin len → α := fun i => Classical.choose (key i)
  have fs : ∀ i, ok (f i) ∧ ∀ (j : Nat) (u : Value), (enc (f i))[j]? = some u → w.cell? ((x.add (i * size)).add j) = some u := fun i => Classical.choose_spec (key i)
  refine ⟨List.ofFn f, by simp, ?_, ?_, ⟨hl, hm⟩, by simp⟩
  ·
   rcases Nat.eq_zero_or_pos len with h0 | h0
   ·
    subst h0; exact .inl (by simp)
   ·
    have hx : x.spot = none ∧ x.block < w.heap.size := by
     have h1 : 0 < (enc (f ⟨0, h0⟩)).length := by rw [henc]; exact hs
     have := (fs ⟨0, h0⟩).2 0 _ (List.getElem?_eq_getElem h1)
     have q := cell_spot this
     simpa [Addr.add] using q
    obtain ⟨b, o, sp⟩ := x
    obtain ⟨h1, h2⟩ := hx
    simp only at h1 h2
    subst h1
    refine .inr ⟨b, o, rfl, h2, fun i v hv j u hu => ?_⟩
    obtain ⟨hil, rfl⟩ := List.getElem?_eq_some_iff.1 hv
    rw [List.length_ofFn] at hil
    rw [List.getElem_ofFn] at hu
    have := (fs ⟨i, hil⟩).2 j u hu
    rw [add_none, add_none, Nat.add_assoc] at this
    exact this
  ·
   intro v hv
   obtain ⟨i, rfl⟩ := List.mem_ofFn.1 hv
   exact (fs i).1
end
end Go.Proofs.YteeinlbhcdpnnaaDoor
