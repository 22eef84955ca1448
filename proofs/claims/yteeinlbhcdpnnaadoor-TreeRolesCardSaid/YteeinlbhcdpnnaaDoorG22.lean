import Derived.Test.YteeinlbhcdpnnaaDoorG4
import Derived.Test.YteeinlbhcdpnnaaDoorG2
import Derived.Test.YteeinlbhcdpnnaaDoorG21
import Derived.Test.YteeinlbhcdpnnaaDoorG10
import Derived.Test.YteeinlbhcdpnnaaDoorG17
set_option linter.unusedSimpArgs false
set_option linter.unusedVariables false
namespace Go.Proofs.YteeinlbhcdpnnaaDoor
section
open Go.RowKit
attribute [local irreducible] wpQuiet wpList
theorem switchC_some {s : St} {ip : Nat} {x : Po} (up ad : Bool) (hx : s.po[ip]? = some x) : switchC s ((ip : Int) + 1) up ad = chooseM (if onP x = true ∧ onP (switchP x up ad s.cf.p3) = false then ((⟨s, [], []⟩ : TS).setPo (s.po.set ip (switchP x up ad s.cf.p3))).flush ((ip : Int) + 1) else (⟨s, [], []⟩ : TS).setPo (s.po.set ip (switchP x up ad s.cf.p3))) := by
 have hl := (List.getElem?_eq_some_iff.1 hx).1
 unfold switchC
 rw [if_pos (by omega), show ((ip : Int) + 1 - 1).toNat = ip by omega, hx]
theorem okP_zero {x : Po} (h : okP x) (y : Po) (h3 : y.p3 = x.p3) (h13 : y.p13 = 0) (h14 : y.p14 = 0) (h15 : y.p15 = 0) (h16 : y.p16 = 0) : okP y :=
 ⟨by rw [h13]; decide, by rw [h14]; decide, by rw [h15]; decide, by rw [h16]; decide, by rw [h3]; exact h.k⟩
theorem okP_switch {x : Po} {up ad : Bool} {d : Int} (h : okP x) : okP (switchP x up ad d) := by
 unfold switchP
 split
 ·
  split
  ·
   exact ⟨h.r, h.c, h.b, h.p, h.k⟩
  ·
   exact okP_zero h _ rfl rfl rfl rfl rfl
 ·
  exact okP_zero h _ rfl rfl rfl rfl rfl
set_option maxRecDepth 100000 in
set_option maxHeartbeats 8000000 in
theorem switch_call {w : World} {B : Nat} {s : St} {p1 p2 p3 p4 : Value} (p : Int) (up ad : Bool) (hs : OwS w B s p1 p2 p3 p4) (hr : RolesAt w) (hn : s.po.length ≤ 16) (hid : 0 ≤ s.cf.p0 ∧ s.cf.p0 < 18446744073709551616) (hok : ∀ (k : Nat) (x : Po), s.po[k]? = some x → okP x) (hp : -1000000 ≤ p ∧ p ≤ 1000000) : Calls Tryd.prog 14 #[stV s p1 p2 p3 p4, .int .i64 p, .bool up, .bool ad] w fun e w' =>
 ∃ u1 u2 u3 u4 tv fv, e = .returned (.tuple #[stV (switchC s p up ad).s u1 u2 u3 u4, .agg #[tv, fv]]) ∧ Left w (switchC s p up ad) u1 u2 u3 u4 tv fv w' := by
 have HS := Lib.hid hs
 have HR := Lib.hid hr
 have HNN := Lib.hid hn
 have HID := Lib.hid hid
 have HOK := Lib.hid hok
 have HSP := Lib.hid (show (stA s p1 p2 p3 p4).all (·.oneCell') = true from st_one hs)
 obtain ⟨a1, m1, ep, hm1, hm2⟩ := hs.o1.shape
 have HM := Lib.hid (show s.po.length ≤ m1 ∧ m1 ≤ maxLen from ⟨hm1, hm2⟩)
 clear hm1 hm2
 have HP := Lib.hid hp
 subst ep
 have K := Lib.hid (Kb.nil w)
 obtain ⟨tF, htF⟩ : ∃ z, z = switchC s p up ad := ⟨_, rfl⟩
 rw [← htF]
 have HTF := Lib.hid htF
 clear htF
 clear hs hr hn hid hok hp
 go_enter Tryd.func14, Tryd.ntmps14
 go_upto_region 0 with fail
 refine wp_region_lit ?_
 refine kb_box K.out 40 (.tmp 0) (stA s (.slice a1 s.po.length m1) p2 p3 p4) rfl rfl (by rfl) (pz (h := ?_))
 intro b1 w1 K1
 refine kb_alloc K1.out 40 (nil25) rfl z41 (by rfl) (pz (h := ?_))
 intro b2 w2 K2
 refine kb_alloc K2.out 49 (nilM) rfl zO (by rfl) (pz (h := ?_))
 intro b3 w3 K3
 refine wpList_nil ?_
 go_upto_region 1 with fail
 refine lz (wz1 (.agg (stA s (.slice a1 s.po.length m1) p2 p3 p4)) (h1 := by exact kb_all K3.out 0 rfl 40 _ rfl rfl Tryd.underlying40 rfl (size41)) (h := ?_))
 refine wpList_callV 29 #[stV s (.slice a1 s.po.length m1) p2 p3 p4] (fun v w5 => ∃ c : Cs, v = .pointer (some ⟨c.b, 0, none⟩) ∧ Begun w3 s c w5) (by rfl) (by go_simp) ((begin_any (HS.out.next K3.out.below) (HR.out.next K3.out.below) (by have := HNN.out; omega)).mono fun e w5 ⟨c, q1, _, q2⟩ => ⟨_, q1, c, rfl, q2⟩) ?_
 rintro v w5 ⟨⟨T, b, a, n, m, v2, v3, v4⟩, rfl, hB⟩
 (try simp only [Act.put, gA, gS, gZ, sA, sZ, sS])
 have BG := Lib.hid hB
 clear hB
 refine wz1 (pT b 0) (h := nz ?_)
 have HB1 := Lib.hid (show ∀ W, Below w5.heap.size w5 W → Blk W b1 (stA s (.slice a1 s.po.length m1) p2 p3 p4) 40 from fun W hW => ((K3.out.next BG.out.below).at (i := 0) rfl).below hW ((K3.out.next BG.out.below).at (i := 0) rfl).lt)
 have K5 := Lib.hid (Kb.nil w5)
 go_upto_region 2 with fail
 by_cases hh : 1 ≤ p ∧ p ≤ (s.po.length : Int)
 case neg =>
  have HH := Lib.hid hh
  clear hh
  refine lz (wz2 (.agg (stA s (.slice a1 s.po.length m1) p2 p3 p4)) (iV p) (h1 := by exact run_loadVar_of 40 _ rfl b1 rfl 40 _ _ (HB1.out _ K5.out.below) Tryd.underlying40 rfl size41) (h := ?_))
  refine kb_call K5.out 42 #[.agg (stA s (.slice a1 s.po.length m1) p2 p3 p4), .int .i64 p] (.bool false) (by rfl) (by go_simp) (by have q := has_any s a1 s.po.length m1 p2 p3 p4 p w5; rw [show (decide (1 ≤ p) && decide (p ≤ (s.po.length : Int))) = false from by have q1 := HH.out; simp; omega] at q; exact q) (py (h := ?_))
  intro w21 K21
  refine wz1 (.bool true) (h := nz ?_)
  have BG2 := Lib.hid (BG.out.next (show Below w5.heap.size w5 w21 from K21.out.below))
  obtain ⟨FF, hFF⟩ : ∃ z, z = foot ⟨T, b, a, n, m, v2, v3, v4⟩ (.slice none 0 0) (.slice none 0 0) := ⟨_, rfl⟩
  have HFF := Lib.hid hFF
  obtain ⟨t0, ht0⟩ : ∃ z : TS, z = ⟨s, [], []⟩ := ⟨_, rfl⟩
  have KA0 := Lib.hid (show Ta ⟨w21, ⟨T, b, a, n, m, v2, v3, v4⟩, FF⟩ [] t0 w21 from by rw [ht0, hFF]; exact BG2.out.act.start)
  have HT0 := Lib.hid ht0
  clear ht0 hFF
  have LEN := Lib.hid (show n = s.po.length ∧ n ≤ m ∧ m ≤ maxLen by have q := KA0.out.len; rw [HT0.out] at q; exact q)
  have HSQ := Lib.hid (show n ≤ 16 ∧ (n + 1) * n ≤ 272 by have q1 := LEN.out.1; have q2 := HNN.out; exact ⟨by omega, Nat.mul_le_mul (show n + 1 ≤ 17 by omega) (show n ≤ 16 by omega)⟩)
  go_upto_region 3 with fail
  have eF : tF = t0 := by rw [HTF.out, HT0.out]; unfold switchC; rw [if_neg HH.out]
  obtain ⟨tv, fv, hA, hKb, hL, hbk⟩ := Begun.back K3.out BG2.out (by have q := KA0.out; rw [HFF.out] at q; exact q) (by have q : (t0).rest = (s.vl, s.st, s.fd, s.c) := (by rw [HT0.out]; rfl); exact ⟨congrArg (fun z => z.1) q, congrArg (fun z => z.2.1) q, congrArg (fun z => z.2.2.1) q⟩)
  have HAA := Lib.hid hA
  have HKB := Lib.hid hKb
  have HLL := Lib.hid hL
  have HBK := Lib.hid hbk
  clear hA hKb hL hbk
  have HS1 := Lib.hid (show (stA (t0).s (.slice a n m) v2 v3 v4).all (·.oneCell') = true from st_one HLL.out.own)
  have HS2 := Lib.hid (show (#[tv, fv] : Array Value).all (·.oneCell') = true by simp [HAA.out.ot.oneCell, HAA.out.of.oneCell])
  refine lz (wz1 (pT b 0) (h := ?_))
  refine wpList_callT 32 #[.pointer (some ⟨b, 0, none⟩)] (.tuple #[.agg (stA (t0).s (.slice a n m) v2 v3 v4), .agg #[tv, fv]]) (fun w9 => Below w21.heap.size w21 w9) (by rfl) (by go_simp) (end_any HAA.out HLL.out.own.o2.oneCell HLL.out.own.o3.oneCell HLL.out.own.o4.oneCell) (py (h := ?_))
  intro w9 B9
  refine wz2 (.agg (stA (t0).s (.slice a n m) v2 v3 v4)) (.agg (#[tv, fv])) (h := ?_)
  refine kbm_row (G := (fun k => k = b2 ∨ k = b3)) (HKB.out.next B9.out) (Mv.of_below B9.out) (.inl rfl) 1 rfl 40 _ _ (stA (t0).s (.slice a n m) v2 v3 v4) rfl rfl rfl rfl size41 rfl HS1.out ?_
  intro w10 hk10 hm10
  (try simp only [Act.put, gA, gS, gZ, sA, sZ, sS])
  refine kbm_row hk10 hm10 (.inr rfl) 2 rfl 49 _ _ (#[tv, fv]) rfl rfl rfl rfl sizeO rfl HS2.out ?_
  intro w11 hk11 hm11
  (try simp only [Act.put, gA, gS, gZ, sA, sZ, sS])
  refine wpList_nil ?_
  have K11 := Lib.hid hk11
  have M11 := Lib.hid hm11
  clear hk10 hm10 hk11 hm11
  go_wp2_with fail
  (try simp only [Exit.inBlock, Exit.then])
  refine bodyPost_ret (v := .tuple #[.agg (stA (t0).s (.slice a n m) v2 v3 v4), .agg #[tv, fv]]) (results_rows Tryd.results14 _ _ b2 b3 40 49 (stA (t0).s (.slice a n m) v2 v3 v4) (#[tv, fv]) rfl rfl (K11.out.at (i := 1) rfl) (K11.out.at (i := 2) rfl) Tryd.underlying40 rfl size41 Tryd.underlying49 rfl sizeO) rfl ?_
  try rw [eF]
  exact ⟨.slice a n m, v2, v3, v4, tv, fv, rfl, HLL.out.mv M11.out K11.out.below (fun k hk => by have hk2 := HBK.out k hk; have l2 := (K3.out.at (i := 1) rfl).lt; have l3 := (K3.out.at (i := 2) rfl).lt; rintro (e | e) <;> omega)⟩
 case pos =>
  have HH := Lib.hid hh
  clear hh
  refine lz (wz2 (.agg (stA s (.slice a1 s.po.length m1) p2 p3 p4)) (iV p) (h1 := by exact run_loadVar_of 40 _ rfl b1 rfl 40 _ _ (HB1.out _ K5.out.below) Tryd.underlying40 rfl size41) (h := ?_))
  refine kb_call K5.out 42 #[.agg (stA s (.slice a1 s.po.length m1) p2 p3 p4), .int .i64 p] (.bool true) (by rfl) (by go_simp) (by have q := has_any s a1 s.po.length m1 p2 p3 p4 p w5; rw [show (decide (1 ≤ p) && decide (p ≤ (s.po.length : Int))) = true from by have q1 := HH.out; simp [q1.1, q1.2]] at q; exact q) (py (h := ?_))
  intro w21 K21
  refine wz1 (.bool false) (h := nz ?_)
  obtain ⟨ip, hip⟩ : ∃ k : Nat, p = (k : Int) + 1 := ⟨(p - 1).toNat, by have := HH.out; omega⟩
  subst hip
  have HIL := Lib.hid (show ip < s.po.length by have := HH.out; omega)
  obtain ⟨x, hx⟩ : ∃ x, s.po[ip]? = some x := ⟨_, List.getElem?_eq_getElem HIL.out⟩
  have HXS := Lib.hid hx
  have HSB := Lib.hid (switchC_some up ad hx)
  have HKB := Lib.hid (show (ip : Int) < 100 by have q1 := HIL.out; have q2 := HNN.out; omega)
  clear hx
  have BG2 := Lib.hid (BG.out.next (show Below w5.heap.size w5 w21 from K21.out.below))
  obtain ⟨FF, hFF⟩ : ∃ z, z = foot ⟨T, b, a, n, m, v2, v3, v4⟩ (.slice none 0 0) (.slice none 0 0) := ⟨_, rfl⟩
  have HFF := Lib.hid hFF
  obtain ⟨t0, ht0⟩ : ∃ z : TS, z = ⟨s, [], []⟩ := ⟨_, rfl⟩
  have KA0 := Lib.hid (show Ta ⟨w21, ⟨T, b, a, n, m, v2, v3, v4⟩, FF⟩ [] t0 w21 from by rw [ht0, hFF]; exact BG2.out.act.start)
  have HT0 := Lib.hid ht0
  clear ht0 hFF
  have LEN := Lib.hid (show n = s.po.length ∧ n ≤ m ∧ m ≤ maxLen by have q := KA0.out.len; rw [HT0.out] at q; exact q)
  have HSQ := Lib.hid (show n ≤ 16 ∧ (n + 1) * n ≤ 272 by have q1 := LEN.out.1; have q2 := HNN.out; exact ⟨by omega, Nat.mul_le_mul (show n + 1 ≤ 17 by omega) (show n ≤ 16 by omega)⟩)
  have HX := Lib.hid (show t0.s.po[ip]? = some x by rw [HT0.out]; exact HXS.out)
  obtain ⟨g, rfl⟩ : ∃ g, a = some ⟨g, 0, none⟩ := KA0.out.ptr HX.out
  have HLT := Lib.hid (show ip < n by have q1 := LEN.out.1; have q2 := HIL.out; omega)
  have HLP := Lib.hid (show ip < t0.s.po.length from (List.getElem?_eq_some_iff.1 HX.out).1)
  go_upto_region 4 with fail
  refine lz (wz6 (pT b 0) (pT b 0) (pT b 0) (pT b 6) (.slice (some ⟨g, 0, none⟩) n m) (iV ((ip : Int) + 1)) (h5 := by have q : w21.cell? ⟨b, 6, none⟩ = some (.slice (some ⟨g, 0, none⟩) n m) := KA0.out.acell 6 rfl; go_simp) (h := wz3 (iV (ip : Nat)) (pT g (ip * 21)) (.agg (poA x)) (h1 := by have q := HKB.out; go_simp; try exact wrap_i64 (by omega) (by omega)) (h2 := by have q1 : ip < n := HLT.out; have q2 : n ≤ m := LEN.out.2.1; go_simp) (h3 := by exact run_loadRange 73 _ rfl g (ip * 21) rfl (poA x) _ (KA0.out.prange rfl HX.out) Tryd.underlying73 rfl (po_info _)) (h := ?_)))
  refine ta_alloc KA0.out 73 (nil21) rfl z50 (by rfl) (pz (h := ?_))
  intro b22 w22 K22
  refine ta_row K22.out 0 rfl 73 _ _ (poA x) rfl rfl rfl rfl (size50) (by rfl) (po_all _) (py (h := ?_))
  intro w23 K23
  refine wpList_nil ?_
  go_upto_region 5 with fail
  obtain ⟨z, hz⟩ : ∃ z, z = switchP x up ad t0.s.cf.p3 := ⟨_, rfl⟩
  have HZ := Lib.hid hz
  clear hz
  refine rk (fun s => [.agg (poA x), .bool up, .bool ad, pT b 0, pT b 0, pT b 0, pT b 0, .agg (cfA t0.s.cf), .agg (poA z), s, undef]) (fun s Lx w' => W2 w23 73 62 21 21 (poA z) (#[]) (Lx 9) false (Lx 10) false s undef w') (undef) [] [] [(0, fun s => [(11, pT b22 0)]), (7, fun s => [(38, pT b 0)]), (8, fun s => [(32, .agg (poA x)), (33, .bool up), (34, .bool ad), (39, .agg (cfA t0.s.cf))]), (9, fun s => []), (10, fun s => [(12, s), (40, .agg (poA z))])] [9, 10] (W2.start _) (fun _ _ _ _ => trivial) (fun _ L1 L2 _ e h => by (try dsimp only at h ⊢); rw [← e 9 (by decide), ← e 10 (by decide)]; exact h) ?_ ?_
  ·
   refine ⟨?_, ?_, ?_, ?_, ?_, trivial⟩ <;> (rintro v12 Lx w' hw hL haft hdc ρ hc hf hG hs o ho; cases ho; try dsimp only [pT, iV, seen] at hw hs)
   ·
    obtain ⟨e11, _⟩ := hs
    exact sq (.agg (poA x)) (l_var 73 _ rfl _ e11 _ _ _ (Ta.at (i := 0) (K23.out.next hw.from1) rfl) Tryd.underlying73 rfl (size50))
   ·
    obtain ⟨e38, _⟩ := hs
    exact sq (.agg (cfA t0.s.cf)) (by obtain ⟨cs, ty, q1, q2⟩ := (K23.out.next hw.from1).conf; exact l_partof 31 _ rfl b 0 e38 ty cs (cfA t0.s.cf).toList _ q1 q2 Tryd.underlying31 rfl (cf_info _))
   ·
    exact sc (.agg (poA z)) 30 #[.agg (poA x), .bool up, .bool ad, .agg (cfA t0.s.cf)] (by have q := switch_any x up ad t0.s.cf w'; rw [← HZ.out] at q; exact q) (by go_simp) (fun w2 hb => ⟨_, fun _ _ => rfl, rfl, hw.next hb⟩)
   ·
    skip
    have hz := z50 w'
    exact sw (w' := (w'.alloc (.cells (nil21) 73))) (pT (w'.heap.size) 0) (by go_simp) ⟨(pT (w'.heap.size) 0), vs_other (i := 9) rfl hL, rfl, hw.alloc7 rfl hL⟩
   ·
    obtain ⟨e12, e40, _⟩ := hs
    obtain ⟨c, cs, rfl, hB, hz, hk, -⟩ := hw.p7 (haft 9 (by decide))
    exact sr 73 _ _ rfl c (poA z) e12 e40 73 cs hk (size50) (hz.trans rfl) (po_all _) ⟨_, fun _ _ => rfl, rfl, hw.store7 (haft 9 (by decide)) rfl hk hB⟩
  intro v12 Lx w24 hw hall
  try dsimp only at hw
  obtain ⟨b24x, cs0, hv0, hB0, -, hk0, hx0⟩ := hw.p7 (hall 9 (by decide))
  have hx0 := hx0 (hall 10 (by decide))
  subst hx0
  subst hv0
  simp only [pT, iV, List.toList_toArray, putsZ_some, putsZ_none, putsZ_nil, List.setIfInBounds_toArray, List.set_cons_zero, List.set_cons_succ]
  have K24 := Lib.hid (show Ta ⟨w21, ⟨T, b, some ⟨g, 0, none⟩, n, m, v2, v3, v4⟩, FF⟩ [(b22, poA x, 73), (b24x, poA z, 73)] (t0) w24 from (ta_add2 K23.out hw.from1 hk0 hB0))
  clear hw hall
  go_upto_region 6 with fail
  refine rk (fun (_ : Unit) => [pT b 0, pT b 0, pT b 0, pT b 6, .slice (some ⟨g, 0, none⟩) n m, iV ((ip : Int) + 1), iV (ip : Nat), .agg (poA z), pT g (ip * 21), undef]) (fun _ Lx w' => Ta ⟨w21, ⟨T, b, some ⟨g, 0, none⟩, n, m, v2, v3, v4⟩, FF⟩ [(b22, poA x, 73), (b24x, poA z, 73)] (bif Lx 9 then t0.setPo (t0.s.po.set ip z) else t0) w') (()) [] [] [(4, fun _ => [(44, pT b 6)]), (6, fun _ => [(46, iV ((ip : Int) + 1))]), (7, fun _ => [(12, pT b24x 0)]), (8, fun _ => [(45, .slice (some ⟨g, 0, none⟩) n m), (47, iV (ip : Nat))]), (9, fun _ => [(48, .agg (poA z)), (49, pT g (ip * 21))])] [9] (K24.out.drew) (fun _ _ _ _ => trivial) (fun _ L1 L2 _ e h => by (try dsimp only at h ⊢); rw [← e 9 (by decide)]; exact h) ?_ ?_
  ·
   refine ⟨?_, ?_, ?_, ?_, ?_, trivial⟩ <;> (rintro _ Lx w' hw hL haft hdc ρ hc hf hG hs o ho; cases ho; try dsimp only [pT, iV, seen] at hw hs)
   ·
    have hn9 : Lx 9 = false := nup (fun cq => hdc 8 (hdc 9 cq 8 (by decide)) 4 (by decide)) hL
    have hwo : Ta ⟨w21, ⟨T, b, some ⟨g, 0, none⟩, n, m, v2, v3, v4⟩, FF⟩ [(b22, poA x, 73), (b24x, poA z, 73)] (t0) w' := by rw [hn9] at hw; exact hw
    exact sq (.slice (some ⟨g, 0, none⟩) n m) (by have q : w'.cell? ⟨b, 6, none⟩ = some (.slice (some ⟨g, 0, none⟩) n m) := hwo.acell 6 rfl; go_simp)
   ·
    exact sq (iV (ip : Nat)) (by have q := HKB.out; go_simp; try exact wrap_i64 (by omega) (by omega))
   ·
    obtain ⟨e12, _⟩ := hs
    have hn9 : Lx 9 = false := nup (fun cq => hdc 9 cq 7 (by decide)) hL
    have hwo : Ta ⟨w21, ⟨T, b, some ⟨g, 0, none⟩, n, m, v2, v3, v4⟩, FF⟩ [(b22, poA x, 73), (b24x, poA z, 73)] (t0) w' := by rw [hn9] at hw; exact hw
    exact sq (.agg (poA z)) (l_var 73 _ rfl _ e12 _ _ _ (Ta.at (i := 1) hwo rfl) Tryd.underlying73 rfl (size50))
   ·
    exact sq (pT g (ip * 21)) (by have q1 : ip < n := HLT.out; have q2 : n ≤ m := LEN.out.2.1; go_simp)
   ·
    obtain ⟨e48, e49, _⟩ := hs
    have hw0 : Ta ⟨w21, ⟨T, b, some ⟨g, 0, none⟩, n, m, v2, v3, v4⟩, FF⟩ [(b22, poA x, 73), (b24x, poA z, 73)] (t0) w' := by rw [hL] at hw; exact hw
    exact sm 73 _ _ rfl g (ip * 21) (poA z) e49 e48 (hw0.pthere rfl HLP.out) (po_info _) (po_all _) ⟨(), fun _ _ => rfl, rfl, hw0.pput rfl HLP.out⟩
  intro _ Lx w25 hw hall
  try dsimp only at hw
  simp only [pT, iV, List.toList_toArray, putsZ_some, putsZ_none, putsZ_nil, List.setIfInBounds_toArray, List.set_cons_zero, List.set_cons_succ]
  rw [hall 9 (by decide)] at hw
  simp only [cond_true] at hw
  have K25 := Lib.hid hw
  clear hw hall
  obtain ⟨t1, ht1⟩ : ∃ q, q = t0.setPo (t0.s.po.set ip z) := ⟨_, rfl⟩
  have KY := Lib.hid (show Ta ⟨w21, ⟨T, b, some ⟨g, 0, none⟩, n, m, v2, v3, v4⟩, FF⟩ [(b22, poA x, 73), (b24x, poA z, 73)] t1 w25 from ht1 ▸ K25.out)
  have HT1 := Lib.hid ht1
  clear ht1
  have HZS := Lib.hid (show z = switchP x up ad s.cf.p3 by rw [HZ.out, HT0.out])
  have HT1S := Lib.hid (show t1 = (⟨s, [], []⟩ : TS).setPo (s.po.set ip z) by rw [HT1.out, HT0.out])
  have HN1 := Lib.hid (show t1.s.po.length = n ∧ t1.s.cf = s.cf ∧ t1.fl = [] ∧ t1.told = [] by rw [HT1S.out]; exact ⟨(List.length_set).trans LEN.out.1.symm, rfl, rfl, rfl⟩)
  have HOK1 := Lib.hid (show ∀ (k : Nat) (y : Po), t1.s.po[k]? = some y → okP y from fun k y hy => by rw [HT1S.out] at hy; rcases set_cases hy with ⟨-, e⟩ | e; exact (by rw [e, HZS.out]; exact okP_switch (HOK.out ip _ HXS.out)); exact HOK.out k y e)
  go_upto_region 7 with fail
  rcases (show onP x = true ∨ onP x = false by cases onP x <;> simp) with hon | hon
  case inr =>
   have HON := Lib.hid hon
   clear hon
   refine lz (wz1 (.agg (poA x)) (h1 := by exact ta_all KY.out 0 rfl 73 _ rfl rfl Tryd.underlying73 rfl (size50)) (h := ?_))
   refine ta_call KY.out 20 #[.agg (poA x)] (.bool false) (by rfl) (by go_simp) (on_is3 x false HON.out w25) (py (h := ?_))
   intro w26 K26
   refine wz1 (.bool false) (h := wk (h := wk (h := wk (h := wz1 (.bool false) (h1 := by exact run_pick_no (.tmp 52) (.tmp 55) (.const (.bool false)) _ rfl rfl rfl) (h := nz ?_)))))
   have K26y := Lib.hid (Ta.left (l := []) K26.out)
   go_upto_region 9 with fail
   refine lz (wz1 (pT b 0) (h := ?_))
   refine ta_act K26y.out 31 #[.pointer (some ⟨b, 0, none⟩)] (chooseM t1) (by rfl) (by go_simp) (fun tv fv h => choose_ok.ok h HOK1.out (by show 0 ≤ t1.s.cf.p0 ∧ t1.s.cf.p0 < 18446744073709551616; rw [HN1.out.2.1]; exact HID.out) (by have q1 := HSQ.out; have q2 := HN1.out.2.2.1; show t1.fl.length + (n + 1) * n ≤ 1000; rw [q2]; show 0 + (n + 1) * n ≤ 1000; omega) (by have q1 := HSQ.out; have q2 := HN1.out.2.2.2; show t1.told.length + n ≤ 1000; rw [q2]; show 0 + n ≤ 1000; omega)) (py (h := ?_))
   intro w27 K27
   refine wpList_nil ?_
   go_upto_region 10 with fail
   have eF : tF = (chooseM t1) := by rw [HTF.out, HSB.out, ← HZS.out, if_neg (fun c => by have := c.1; rw [HON.out] at this; exact Bool.noConfusion this), HT1S.out]
   obtain ⟨tv, fv, hA, hKb, hL, hbk⟩ := Begun.back K3.out BG2.out (by have q := K27.out; rw [HFF.out] at q; exact q) (by have q : ((chooseM t1)).rest = (s.vl, s.st, s.fd, s.c) := ((chooseM_rest _).trans (by rw [HT1S.out]; rfl)); exact ⟨congrArg (fun z => z.1) q, congrArg (fun z => z.2.1) q, congrArg (fun z => z.2.2.1) q⟩)
   have HAA := Lib.hid hA
   have HKB := Lib.hid hKb
   have HLL := Lib.hid hL
   have HBK := Lib.hid hbk
   clear hA hKb hL hbk
   have HS1 := Lib.hid (show (stA ((chooseM t1)).s (.slice (some ⟨g, 0, none⟩) n m) v2 v3 v4).all (·.oneCell') = true from st_one HLL.out.own)
   have HS2 := Lib.hid (show (#[tv, fv] : Array Value).all (·.oneCell') = true by simp [HAA.out.ot.oneCell, HAA.out.of.oneCell])
   refine lz (wz1 (pT b 0) (h := ?_))
   refine wpList_callT 32 #[.pointer (some ⟨b, 0, none⟩)] (.tuple #[.agg (stA ((chooseM t1)).s (.slice (some ⟨g, 0, none⟩) n m) v2 v3 v4), .agg #[tv, fv]]) (fun w9 => Below w27.heap.size w27 w9) (by rfl) (by go_simp) (end_any HAA.out HLL.out.own.o2.oneCell HLL.out.own.o3.oneCell HLL.out.own.o4.oneCell) (py (h := ?_))
   intro w9 B9
   refine wz2 (.agg (stA ((chooseM t1)).s (.slice (some ⟨g, 0, none⟩) n m) v2 v3 v4)) (.agg (#[tv, fv])) (h := ?_)
   refine kbm_row (G := (fun k => k = b2 ∨ k = b3)) (HKB.out.next B9.out) (Mv.of_below B9.out) (.inl rfl) 1 rfl 40 _ _ (stA ((chooseM t1)).s (.slice (some ⟨g, 0, none⟩) n m) v2 v3 v4) rfl rfl rfl rfl size41 rfl HS1.out ?_
   intro w10 hk10 hm10
   (try simp only [Act.put, gA, gS, gZ, sA, sZ, sS])
   refine kbm_row hk10 hm10 (.inr rfl) 2 rfl 49 _ _ (#[tv, fv]) rfl rfl rfl rfl sizeO rfl HS2.out ?_
   intro w11 hk11 hm11
   (try simp only [Act.put, gA, gS, gZ, sA, sZ, sS])
   refine wpList_nil ?_
   have K11 := Lib.hid hk11
   have M11 := Lib.hid hm11
   clear hk10 hm10 hk11 hm11
   go_wp2_with fail
   (try simp only [Exit.inBlock, Exit.then])
   refine bodyPost_ret (v := .tuple #[.agg (stA ((chooseM t1)).s (.slice (some ⟨g, 0, none⟩) n m) v2 v3 v4), .agg #[tv, fv]]) (results_rows Tryd.results14 _ _ b2 b3 40 49 (stA ((chooseM t1)).s (.slice (some ⟨g, 0, none⟩) n m) v2 v3 v4) (#[tv, fv]) rfl rfl (K11.out.at (i := 1) rfl) (K11.out.at (i := 2) rfl) Tryd.underlying40 rfl size41 Tryd.underlying49 rfl sizeO) rfl ?_
   try rw [eF]
   exact ⟨.slice (some ⟨g, 0, none⟩) n m, v2, v3, v4, tv, fv, rfl, HLL.out.mv M11.out K11.out.below (fun k hk => by have hk2 := HBK.out k hk; have l2 := (K3.out.at (i := 1) rfl).lt; have l3 := (K3.out.at (i := 2) rfl).lt; rintro (e | e) <;> omega)⟩
  case inl =>
   have HON := Lib.hid hon
   clear hon
   rcases (show onP z = true ∨ onP z = false by cases onP z <;> simp) with hoz | hoz
   case inl =>
    have HOZ := Lib.hid hoz
    clear hoz
    refine lz (wz1 (.agg (poA x)) (h1 := by exact ta_all KY.out 0 rfl 73 _ rfl rfl Tryd.underlying73 rfl (size50)) (h := ?_))
    refine ta_call KY.out 20 #[.agg (poA x)] (.bool true) (by rfl) (by go_simp) (on_is3 x true HON.out w25) (py (h := ?_))
    intro w26 K26
    refine wz2 (.bool true) (.agg (poA z)) (h2 := by exact ta_all K26.out 1 rfl 73 _ rfl rfl Tryd.underlying73 rfl (size50)) (h := ?_)
    refine ta_call K26.out 20 #[.agg (poA z)] (.bool true) (by rfl) (by go_simp) (on_is3 z true HOZ.out w26) (py (h := ?_))
    intro w27 K27
    refine wz2 (.bool false) (.bool false) (h2 := by exact run_pick_yes (.tmp 52) (.tmp 55) (.const (.bool false)) _ rfl rfl rfl) (h := nz ?_)
    have K27y := Lib.hid (Ta.left (l := []) K27.out)
    go_upto_region 9 with fail
    refine lz (wz1 (pT b 0) (h := ?_))
    refine ta_act K27y.out 31 #[.pointer (some ⟨b, 0, none⟩)] (chooseM t1) (by rfl) (by go_simp) (fun tv fv h => choose_ok.ok h HOK1.out (by show 0 ≤ t1.s.cf.p0 ∧ t1.s.cf.p0 < 18446744073709551616; rw [HN1.out.2.1]; exact HID.out) (by have q1 := HSQ.out; have q2 := HN1.out.2.2.1; show t1.fl.length + (n + 1) * n ≤ 1000; rw [q2]; show 0 + (n + 1) * n ≤ 1000; omega) (by have q1 := HSQ.out; have q2 := HN1.out.2.2.2; show t1.told.length + n ≤ 1000; rw [q2]; show 0 + n ≤ 1000; omega)) (py (h := ?_))
    intro w28 K28
    refine wpList_nil ?_
    go_upto_region 10 with fail
    have eF : tF = (chooseM t1) := by rw [HTF.out, HSB.out, ← HZS.out, if_neg (fun c => by have := c.2; rw [HOZ.out] at this; exact Bool.noConfusion this), HT1S.out]
    obtain ⟨tv, fv, hA, hKb, hL, hbk⟩ := Begun.back K3.out BG2.out (by have q := K28.out; rw [HFF.out] at q; exact q) (by have q : ((chooseM t1)).rest = (s.vl, s.st, s.fd, s.c) := ((chooseM_rest _).trans (by rw [HT1S.out]; rfl)); exact ⟨congrArg (fun z => z.1) q, congrArg (fun z => z.2.1) q, congrArg (fun z => z.2.2.1) q⟩)
    have HAA := Lib.hid hA
    have HKB := Lib.hid hKb
    have HLL := Lib.hid hL
    have HBK := Lib.hid hbk
    clear hA hKb hL hbk
    have HS1 := Lib.hid (show (stA ((chooseM t1)).s (.slice (some ⟨g, 0, none⟩) n m) v2 v3 v4).all (·.oneCell') = true from st_one HLL.out.own)
    have HS2 := Lib.hid (show (#[tv, fv] : Array Value).all (·.oneCell') = true by simp [HAA.out.ot.oneCell, HAA.out.of.oneCell])
    refine lz (wz1 (pT b 0) (h := ?_))
    refine wpList_callT 32 #[.pointer (some ⟨b, 0, none⟩)] (.tuple #[.agg (stA ((chooseM t1)).s (.slice (some ⟨g, 0, none⟩) n m) v2 v3 v4), .agg #[tv, fv]]) (fun w9 => Below w28.heap.size w28 w9) (by rfl) (by go_simp) (end_any HAA.out HLL.out.own.o2.oneCell HLL.out.own.o3.oneCell HLL.out.own.o4.oneCell) (py (h := ?_))
    intro w9 B9
    refine wz2 (.agg (stA ((chooseM t1)).s (.slice (some ⟨g, 0, none⟩) n m) v2 v3 v4)) (.agg (#[tv, fv])) (h := ?_)
    refine kbm_row (G := (fun k => k = b2 ∨ k = b3)) (HKB.out.next B9.out) (Mv.of_below B9.out) (.inl rfl) 1 rfl 40 _ _ (stA ((chooseM t1)).s (.slice (some ⟨g, 0, none⟩) n m) v2 v3 v4) rfl rfl rfl rfl size41 rfl HS1.out ?_
    intro w10 hk10 hm10
    (try simp only [Act.put, gA, gS, gZ, sA, sZ, sS])
    refine kbm_row hk10 hm10 (.inr rfl) 2 rfl 49 _ _ (#[tv, fv]) rfl rfl rfl rfl sizeO rfl HS2.out ?_
    intro w11 hk11 hm11
    (try simp only [Act.put, gA, gS, gZ, sA, sZ, sS])
    refine wpList_nil ?_
    have K11 := Lib.hid hk11
    have M11 := Lib.hid hm11
    clear hk10 hm10 hk11 hm11
    go_wp2_with fail
    (try simp only [Exit.inBlock, Exit.then])
    refine bodyPost_ret (v := .tuple #[.agg (stA ((chooseM t1)).s (.slice (some ⟨g, 0, none⟩) n m) v2 v3 v4), .agg #[tv, fv]]) (results_rows Tryd.results14 _ _ b2 b3 40 49 (stA ((chooseM t1)).s (.slice (some ⟨g, 0, none⟩) n m) v2 v3 v4) (#[tv, fv]) rfl rfl (K11.out.at (i := 1) rfl) (K11.out.at (i := 2) rfl) Tryd.underlying40 rfl size41 Tryd.underlying49 rfl sizeO) rfl ?_
    try rw [eF]
    exact ⟨.slice (some ⟨g, 0, none⟩) n m, v2, v3, v4, tv, fv, rfl, HLL.out.mv M11.out K11.out.below (fun k hk => by have hk2 := HBK.out k hk; have l2 := (K3.out.at (i := 1) rfl).lt; have l3 := (K3.out.at (i := 2) rfl).lt; rintro (e | e) <;> omega)⟩
   case inr =>
    have HOZ := Lib.hid hoz
    clear hoz
    refine lz (wz1 (.agg (poA x)) (h1 := by exact ta_all KY.out 0 rfl 73 _ rfl rfl Tryd.underlying73 rfl (size50)) (h := ?_))
    refine ta_call KY.out 20 #[.agg (poA x)] (.bool true) (by rfl) (by go_simp) (on_is3 x true HON.out w25) (py (h := ?_))
    intro w26 K26
    refine wz2 (.bool true) (.agg (poA z)) (h2 := by exact ta_all K26.out 1 rfl 73 _ rfl rfl Tryd.underlying73 rfl (size50)) (h := ?_)
    refine ta_call K26.out 20 #[.agg (poA z)] (.bool false) (by rfl) (by go_simp) (on_is3 z false HOZ.out w26) (py (h := ?_))
    intro w27 K27
    refine wz2 (.bool true) (.bool true) (h2 := by exact run_pick_yes (.tmp 52) (.tmp 55) (.const (.bool false)) _ rfl rfl rfl) (h := nz ?_)
    have K27y := Lib.hid (Ta.left (l := []) K27.out)
    go_upto_region 8 with fail
    obtain ⟨tv2, fv2, hA1, hA2, hA3⟩ := K27y.out.act
    have HA1 := Lib.hid hA1
    have HA2 := Lib.hid hA2
    have HA3 := Lib.hid hA3
    clear hA1 hA2 hA3
    have KF := Lib.hid (show w27.cell? ⟨b, 26, none⟩ = some fv2 from HA1.out.blk.cell 26)
    refine lz (wz6 (pT b 0) (pT b 0) (pT b 0) (pT b 25) (pT b 26) (fv2) (h6 := by have q := KF.out; go_simp) (h := wz1 (iV ((ip : Int) + 1)) (h := ?_)))
    have AW1 := Lib.hid (ApW.made inT (ApW.start0 (x := ((ip : Int) + 1)) (vS := undef) (vR := undef) HA1.out.of (Nat.zero_le _)) rfl #[.int .i64 ((ip : Int) + 1)] rfl)
    refine wpList_made (.slice (some ⟨w27.heap.size, 0, none⟩) 1 1) (by rfl) (run_bs1 45 (.tmp 63) rfl (.int .i64 ((ip : Int) + 1)) _ rfl (one_in ((ip : Int) + 1) w27)) ?_
    (try simp only [Act.put, gA, gS, gZ, sA, sZ, sS])
    obtain ⟨vR, wA, hrun, hA⟩ := AW1.out.app inT rfl rfl (by rw [HN1.out.2.2.1]; decide) 45
    obtain ⟨q', r', eu, -⟩ := (hA.pr rfl).shape
    subst eu
    have AW2 := Lib.hid hA
    refine wpList_append_lst rfl _ _ 45 rfl _ wA hrun ?_
    (try simp only [Act.put, gA, gS, gZ, sA, sZ, sS])
    clear hrun hA
    refine wz3 (pT b 0) (pT b 25) (pT b 26) (h := ?_)
    refine ta_flush K27y.out HA1.out HA2.out HA3.out AW2.out 45 _ _ rfl (by rfl) rfl rfl (fun W h1 h2 => by go_simp) ?_
    clear HA1 HA2 HA3 KF AW1 AW2
    intro w28 hk
    have K28 := Lib.hid (show Ta ⟨w21, ⟨T, b, some ⟨g, 0, none⟩, n, m, v2, v3, v4⟩, FF⟩ [] ((t1.flush ((ip : Int) + 1))) w28 from hk)
    clear hk
    (try simp only [Act.put, gA, gS, gZ, sA, sZ, sS])
    refine wpList_nil ?_
    go_upto_region 9 with fail
    refine lz (wz1 (pT b 0) (h := ?_))
    refine ta_act K28.out 31 #[.pointer (some ⟨b, 0, none⟩)] (chooseM (t1.flush ((ip : Int) + 1))) (by rfl) (by go_simp) (fun tv fv h => choose_ok.ok h HOK1.out (by show 0 ≤ t1.s.cf.p0 ∧ t1.s.cf.p0 < 18446744073709551616; rw [HN1.out.2.1]; exact HID.out) (by have q1 := HSQ.out; have q2 := HN1.out.2.2.1; show (t1.fl ++ [_]).length + (n + 1) * n ≤ 1000; rw [q2]; show 1 + (n + 1) * n ≤ 1000; omega) (by have q1 := HSQ.out; have q2 := HN1.out.2.2.2; show t1.told.length + n ≤ 1000; rw [q2]; show 0 + n ≤ 1000; omega)) (py (h := ?_))
    intro w29 K29
    refine wpList_nil ?_
    go_upto_region 10 with fail
    have eF : tF = (chooseM (t1.flush ((ip : Int) + 1))) := by rw [HTF.out, HSB.out, ← HZS.out, if_pos ⟨HON.out, HOZ.out⟩, HT1S.out]
    obtain ⟨tv, fv, hA, hKb, hL, hbk⟩ := Begun.back K3.out BG2.out (by have q := K29.out; rw [HFF.out] at q; exact q) (by have q : ((chooseM (t1.flush ((ip : Int) + 1)))).rest = (s.vl, s.st, s.fd, s.c) := ((chooseM_rest _).trans (by rw [HT1S.out]; rfl)); exact ⟨congrArg (fun z => z.1) q, congrArg (fun z => z.2.1) q, congrArg (fun z => z.2.2.1) q⟩)
    have HAA := Lib.hid hA
    have HKB := Lib.hid hKb
    have HLL := Lib.hid hL
    have HBK := Lib.hid hbk
    clear hA hKb hL hbk
    have HS1 := Lib.hid (show (stA ((chooseM (t1.flush ((ip : Int) + 1)))).s (.slice (some ⟨g, 0, none⟩) n m) v2 v3 v4).all (·.oneCell') = true from st_one HLL.out.own)
    have HS2 := Lib.hid (show (#[tv, fv] : Array Value).all (·.oneCell') = true by simp [HAA.out.ot.oneCell, HAA.out.of.oneCell])
    refine lz (wz1 (pT b 0) (h := ?_))
    refine wpList_callT 32 #[.pointer (some ⟨b, 0, none⟩)] (.tuple #[.agg (stA ((chooseM (t1.flush ((ip : Int) + 1)))).s (.slice (some ⟨g, 0, none⟩) n m) v2 v3 v4), .agg #[tv, fv]]) (fun w9 => Below w29.heap.size w29 w9) (by rfl) (by go_simp) (end_any HAA.out HLL.out.own.o2.oneCell HLL.out.own.o3.oneCell HLL.out.own.o4.oneCell) (py (h := ?_))
    intro w9 B9
    refine wz2 (.agg (stA ((chooseM (t1.flush ((ip : Int) + 1)))).s (.slice (some ⟨g, 0, none⟩) n m) v2 v3 v4)) (.agg (#[tv, fv])) (h := ?_)
    refine kbm_row (G := (fun k => k = b2 ∨ k = b3)) (HKB.out.next B9.out) (Mv.of_below B9.out) (.inl rfl) 1 rfl 40 _ _ (stA ((chooseM (t1.flush ((ip : Int) + 1)))).s (.slice (some ⟨g, 0, none⟩) n m) v2 v3 v4) rfl rfl rfl rfl size41 rfl HS1.out ?_
    intro w10 hk10 hm10
    (try simp only [Act.put, gA, gS, gZ, sA, sZ, sS])
    refine kbm_row hk10 hm10 (.inr rfl) 2 rfl 49 _ _ (#[tv, fv]) rfl rfl rfl rfl sizeO rfl HS2.out ?_
    intro w11 hk11 hm11
    (try simp only [Act.put, gA, gS, gZ, sA, sZ, sS])
    refine wpList_nil ?_
    have K11 := Lib.hid hk11
    have M11 := Lib.hid hm11
    clear hk10 hm10 hk11 hm11
    go_wp2_with fail
    (try simp only [Exit.inBlock, Exit.then])
    refine bodyPost_ret (v := .tuple #[.agg (stA ((chooseM (t1.flush ((ip : Int) + 1)))).s (.slice (some ⟨g, 0, none⟩) n m) v2 v3 v4), .agg #[tv, fv]]) (results_rows Tryd.results14 _ _ b2 b3 40 49 (stA ((chooseM (t1.flush ((ip : Int) + 1)))).s (.slice (some ⟨g, 0, none⟩) n m) v2 v3 v4) (#[tv, fv]) rfl rfl (K11.out.at (i := 1) rfl) (K11.out.at (i := 2) rfl) Tryd.underlying40 rfl size41 Tryd.underlying49 rfl sizeO) rfl ?_
    try rw [eF]
    exact ⟨.slice (some ⟨g, 0, none⟩) n m, v2, v3, v4, tv, fv, rfl, HLL.out.mv M11.out K11.out.below (fun k hk => by have hk2 := HBK.out k hk; have l2 := (K3.out.at (i := 1) rfl).lt; have l3 := (K3.out.at (i := 2) rfl).lt; rintro (e | e) <;> omega)⟩
end
section
open Go.RowKit
attribute [local irreducible] wpQuiet wpList
def openU (st : Int) (l : List Po) : Nat → Nat
 | 0 => 0
 | k + 1 => match l[k]? with
  | some x => if onP x = true ∧ st ≤ x.p11 then openU st l k ||| 2 ^ k else openU st l k
  | none => openU st l k
theorem openU_step {st : Int} {l : List Po} {k : Nat} {x : Po} (h : l[k]? = some x) : openU st l (k + 1) = if onP x = true ∧ st ≤ x.p11 then openU st l k ||| 2 ^ k else openU st l k := by
 show (match l[k]? with | some x => if onP x = true ∧ st ≤ x.p11 then openU st l k ||| 2 ^ k else openU st l k | none => openU st l k) = _
 rw [h]
theorem openU_lt (st : Int) (l : List Po) : ∀ k, openU st l k < 2 ^ k
 | 0 => by show 0 < 1; decide
 | k + 1 => by
  have h := openU_lt st l k
  have h2 : 2 ^ (k + 1) = 2 ^ k * 2 := Nat.pow_succ 2 k
  cases c : l[k]? with
  | none =>
   have e : openU st l (k + 1) = openU st l k := by show (match l[k]? with | some x => if onP x = true ∧ st ≤ x.p11 then openU st l k ||| 2 ^ k else openU st l k | none => openU st l k) = _; rw [c]
   rw [e]; omega
  | some x =>
   rw [openU_step c]
   split
   ·
    exact Nat.or_lt_two_pow (by omega) (by omega)
   ·
    omega
theorem pow16 {k : Nat} (h : k ≤ 16) : 2 ^ k ≤ 65536 := by
 have := Nat.pow_le_pow_right (n := 2) (by decide) h
 exact this
set_option maxRecDepth 100000 in
set_option maxHeartbeats 8000000 in
theorem open_call {w : World} {B : Nat} {s : St} {p1 p2 p3 p4 : Value} (sv : Int) (hs : OwS w B s p1 p2 p3 p4) (hn : s.po.length ≤ 16) : Calls Tryd.prog 23 #[stV s p1 p2 p3 p4, .int .i64 sv] w fun e w' => e = .returned (.int .u32 (openU sv s.po s.po.length : Nat)) ∧ Below w.heap.size w w' := by
 obtain ⟨a1, m1, ep, hm1, hm2⟩ := hs.o1.shape
 obtain ⟨n, hn1⟩ : ∃ z, z = s.po.length := ⟨_, rfl⟩
 have HSP := Lib.hid (show (stA s p1 p2 p3 p4).all (·.oneCell') = true from st_one hs)
 rw [← hn1] at ep hm1 hn ⊢
 subst ep
 have HS := Lib.hid hs
 have HN := Lib.hid hn1
 have HM := Lib.hid (show n ≤ m1 ∧ m1 ≤ maxLen from ⟨hm1, hm2⟩)
 have H16 := Lib.hid hn
 have K := Lib.hid (Kb.nil w)
 clear hs hn hn1 hm1 hm2
 go_enter Tryd.func23, Tryd.ntmps23
 go_upto_region 0 with fail
 refine wp_region_lit ?_
 refine kb_box K.out 40 (.tmp 0) (stA s (.slice a1 n m1) p2 p3 p4) rfl rfl (by rfl) (pz (h := ?_))
 intro b1 w1 K1
 refine wz1 (.int .u32 0) (h := nz ?_)
 go_upto_region 1 with fail
 refine lz (wz1 (.int .u32 0) (h := nz ?_))
 go_upto_region 2 with fail
 refine lz (wz4 (pT b1 6) (.slice a1 n m1) (iV (n : Nat)) (iV 0) (h2 := by have q : w1.cell? ⟨b1, 6, none⟩ = some (.slice a1 n m1) := (K1.out.at (i := 0) rfl).cell 6; go_simp) (h := nz ?_))
 go_upto_region 3 with fail
 go_loopw [5, 11] (fun cu i wr => ∃ k : Nat, k ≤ n ∧ i = .int .i64 k ∧ cu = .int .u32 (openU sv s.po k : Nat) ∧ Kb w [(b1, stA s (.slice a1 n m1) p2 p3 p4, 40)] wr) (fun _ i _ => (n - intOf i).toNat)
 case atStart => exact ⟨0, Nat.zero_le _, rfl, rfl, K1.out⟩
 case round =>
  obtain ⟨k, hk, rfl, rfl, hK⟩ := hrel
  have KR := Lib.hid hK
  have HK := Lib.hid hk
  clear hK hk
  have HKB := Lib.hid (show (k : Int) ≤ 16 by have q1 := HK.out; have q2 := H16.out; omega)
  have i1 : (n : Int) ≤ 100 := by have q2 := H16.out; omega
  by_cases hlt : k < n
  case neg =>
   have HLT := Lib.hid hlt
   clear hlt
   go_upto_region 3 with fail
   refine lz (wz1 (.bool false) (h1 := by have q := HLT.out; go_simp) (h := nz ?_))
   go_upto_region 8 with fail
   refine lz (wz2 (.int .u32 (openU sv s.po k : Nat)) (.int .u32 (openU sv s.po k : Nat)) (h := nz ?_))
   go_wp2_with fail
   have hkn : k = s.po.length := by have q1 := HK.out; have q2 := HLT.out; have q3 := HN.out; omega
   go_ret
   exact ⟨by rw [show openU sv s.po n = openU sv s.po k by rw [hkn, ← HN.out]]; rfl, KR.out.below⟩
  case pos =>
   have HLK := Lib.hid hlt
   obtain ⟨x, hx⟩ : ∃ x, s.po[k]? = some x := ⟨_, List.getElem?_eq_getElem (show k < s.po.length by have q := HN.out; omega)⟩
   have HS2 := HS.out.o1
   rw [HN.out] at HS2
   obtain ⟨g1, ha1, -, -, hr1⟩ := Own.elem po_len HS2 hx
   subst ha1
   have HX := Lib.hid hx
   have HR1 := Lib.hid hr1
   clear hx hr1 HS2 hlt
   go_upto_region 3 with fail
   refine lz (wz1 (.bool true) (h1 := by have q := HLK.out; go_simp) (h := nz ?_))
   go_upto_region 4 with fail
   refine lz (wz3 (iV (k : Nat)) (pT g1 (k * 21)) (.agg (poA x)) (h2 := by have q1 : k < n := HLK.out; have q2 := HM.out.1; go_simp) (h3 := by exact run_loadRange 73 _ rfl g1 (k * 21) rfl (poA x) _ (HR1.out _ KR.out.below) Tryd.underlying73 rfl (po_info _)) (h := ?_))
   refine kb_alloc KR.out 73 (nil21) rfl z50 (by rfl) (pz (h := ?_))
   intro b3 w3 K3
   refine wz1 (iV (k : Nat)) (h := ?_)
   refine kb_row K3.out 1 rfl 73 _ _ (poA x) rfl rfl rfl rfl (size50) (by rfl) (po_all _) (py (h := ?_))
   intro w4 K4
   refine wpList_nil ?_
   go_upto_region 5 with fail
   rcases (show onP x = true ∨ onP x = false by cases onP x <;> simp) with hon | hon
   case inr =>
    have HON := Lib.hid hon
    clear hon
    refine lz (wz1 (.agg (poA x)) (h1 := by exact kb_all K4.out 1 rfl 73 _ rfl rfl Tryd.underlying73 rfl (size50)) (h := ?_))
    refine kb_call K4.out 20 #[.agg (poA x)] (.bool false) (by rfl) (by go_simp) (on_is3 x false HON.out w4) (py (h := ?_))
    intro w5 K5
    refine wz1 (.bool false) (h := wk (h := wk (h := wk (h := wk (h := wz1 (.bool false) (h1 := by exact run_pick_no (.tmp 18) (.tmp 22) (.const (.bool false)) _ rfl rfl rfl) (h := nz ?_))))))
    have hlt := HLK.out
    go_wp2_with fail
    go_roundw
    case rel => exact ⟨k + 1, HLK.out, by go_num, by rw [show openU sv s.po (k + 1) = _ from by rw [openU_step HX.out, if_neg (fun c => by have := c.1; rw [HON.out] at this; exact Bool.noConfusion this)]], Kb.left (l := [(b1, stA s (.slice (some ⟨g1, 0, none⟩) n m1) p2 p3 p4, 40)]) K5.out⟩
    case measure => have := HLK.out; simp [intOf]; omega
   case inl =>
    have HON := Lib.hid hon
    clear hon
    by_cases hsv : sv ≤ x.p11
    case neg =>
     have HSV := Lib.hid hsv
     clear hsv
     refine lz (wz1 (.agg (poA x)) (h1 := by exact kb_all K4.out 1 rfl 73 _ rfl rfl Tryd.underlying73 rfl (size50)) (h := ?_))
     refine kb_call K4.out 20 #[.agg (poA x)] (.bool true) (by rfl) (by go_simp) (on_is3 x true HON.out w4) (py (h := ?_))
     intro w5 K5
     refine wz6 (.bool true) (pT b3 11) (iV x.p11) (iV sv) (.bool false) (.bool false) (h3 := by have q : w5.cell? ⟨b3, 11, none⟩ = some (iV x.p11) := K5.out.cell (i := 1) rfl (by rfl); go_simp) (h5 := by have q := HSV.out; go_simp) (h6 := by exact run_pick_yes (.tmp 18) (.tmp 22) (.const (.bool false)) _ rfl rfl rfl) (h := nz ?_)
     have hlt := HLK.out
     go_wp2_with fail
     go_roundw
     case rel => exact ⟨k + 1, HLK.out, by go_num, by rw [show openU sv s.po (k + 1) = _ from by rw [openU_step HX.out, if_neg (fun c => HSV.out c.2)]], Kb.left (l := [(b1, stA s (.slice (some ⟨g1, 0, none⟩) n m1) p2 p3 p4, 40)]) K5.out⟩
     case measure => have := HLK.out; simp [intOf]; omega
    case pos =>
     have HSV := Lib.hid hsv
     clear hsv
     refine lz (wz1 (.agg (poA x)) (h1 := by exact kb_all K4.out 1 rfl 73 _ rfl rfl Tryd.underlying73 rfl (size50)) (h := ?_))
     refine kb_call K4.out 20 #[.agg (poA x)] (.bool true) (by rfl) (by go_simp) (on_is3 x true HON.out w4) (py (h := ?_))
     intro w5 K5
     refine wz6 (.bool true) (pT b3 11) (iV x.p11) (iV sv) (.bool true) (.bool true) (h3 := by have q : w5.cell? ⟨b3, 11, none⟩ = some (iV x.p11) := K5.out.cell (i := 1) rfl (by rfl); go_simp) (h5 := by have q := HSV.out; go_simp) (h6 := by exact run_pick_yes (.tmp 18) (.tmp 22) (.const (.bool false)) _ rfl rfl rfl) (h := nz ?_)
     go_upto_region 6 with fail
     have HOU := Lib.hid (show openU sv s.po k < 65536 from by have q1 := openU_lt sv s.po k; have q2 := pow16 (k := k) (by have := HKB.out; omega); omega)
     obtain ⟨sh, hsh⟩ : ∃ z : Nat, z = 2 ^ k := ⟨_, rfl⟩
     obtain ⟨ou, hou⟩ : ∃ z : Nat, z = openU sv s.po k := ⟨_, rfl⟩
     have HSH := Lib.hid (show IntKind.u32.wrap (2 ^ k) = (sh : Int) by have q := pow16 (k := k) (by have := HKB.out; omega); have e : ((2 : Int) ^ k) = ((2 ^ k : Nat) : Int) := (by simp); rw [hsh, e, IntKind.wrap_u32']; omega)
     have HOR := Lib.hid (show bits .or .u32 (ou : Int) (sh : Int) = ((ou ||| sh : Nat) : Int) from u32_or_nat _ _ (by rw [hou]; have := HOU.out; omega) (by rw [hsh]; have := pow16 (k := k) (by have := HKB.out; omega); omega))
     rw [← hou]
     have HSE := Lib.hid hsh
     have HOE := Lib.hid hou
     clear hsh hou
     refine lz (wz5 (.int .u32 (ou : Nat)) (iV (k : Nat)) (.int .u32 (sh : Nat)) (.int .u32 ((ou ||| sh : Nat) : Int)) (.int .u32 ((ou ||| sh : Nat) : Int)) (h3 := by have q := HKB.out; have q2 := HSH.out; go_simp) (h4 := by have q := HOR.out; go_simp) (h := nz ?_))
     have hlt := HLK.out
     go_wp2_with fail
     go_roundw
     case rel => exact ⟨k + 1, HLK.out, by go_num, by rw [show openU sv s.po (k + 1) = _ from by rw [openU_step HX.out, if_pos ⟨HON.out, HSV.out⟩, ← HSE.out, ← HOE.out]], Kb.left (l := [(b1, stA s (.slice (some ⟨g1, 0, none⟩) n m1) p2 p3 p4, 40)]) K5.out⟩
     case measure => have := HLK.out; simp [intOf]; omega
end
section
open Go.RowKit
attribute [local irreducible] wpQuiet wpList
structure Sg where
 id : Nat
 n0 : Nat
 n1 : Nat
 n2 : Nat
def Sg.ok (x : Sg) : Prop := x.id < 256 ∧ x.n0 < 256 ∧ x.n1 < 256 ∧ x.n2 < 256
def sgA (x : Sg) (v : Value) : Array Value := #[.int .u8 (x.id : Nat), .int .u8 (x.n0 : Nat), .int .u8 (x.n1 : Nat), .int .u8 (x.n2 : Nat), v]
structure Pg where
 c : Nat
 p : Nat
 e : Bool
 ad : Bool
 up : Bool
def Pg.ok (y : Pg) : Prop := y.c < 256 ∧ y.p < 256
def pgA (y : Pg) : Array Value := #[.int .u8 (y.c : Nat), .int .u8 (y.p : Nat), .bool y.e, .bool y.ad, .bool y.up]
def pgC (y : Pg) : List Value := (pgA y).toList
structure Ac where
 wh : Nat
 po : Nat
 ki : Nat
 ro : Nat
 f0 : Bool
 f1 : Bool
 f2 : Bool
 f3 : Bool
 v0 : Nat
 v1 : Nat
 v2 : Nat
 v3 : Nat
 age : Nat
 own : Bool
def Ac.ok (y : Ac) : Prop := y.wh < 256 ∧ y.po < 256 ∧ y.ki < 256 ∧ y.ro < 256 ∧ y.v0 < 256 ∧ y.v1 < 256 ∧ y.v2 < 256 ∧ y.v3 < 256 ∧ y.age < 256
def acA (y : Ac) : Array Value := #[.int .u8 (y.wh : Nat), .int .u8 (y.po : Nat), .int .u8 (y.ki : Nat), .int .u8 (y.ro : Nat), .bool y.f0, .bool y.f1, .bool y.f2, .bool y.f3, .int .u8 (y.v0 : Nat), .int .u8 (y.v1 : Nat), .int .u8 (y.v2 : Nat), .int .u8 (y.v3 : Nat), .int .u8 (y.age : Nat), .bool y.own]
def acC (y : Ac) : List Value := (acA y).toList
abbrev nilPg : Array Value := #[.int .u8 0, .int .u8 0, .bool false, .bool false, .bool false]
abbrev nilAc : Array Value := #[.int .u8 0, .int .u8 0, .int .u8 0, .int .u8 0, .bool false, .bool false, .bool false, .bool false, .int .u8 0, .int .u8 0, .int .u8 0, .int .u8 0, .int .u8 0, .bool false]
theorem sizeSg : (Tryd.prog.info? 25).map (·.size) = some 5 := by kernel_rfl
theorem sizePg : (Tryd.prog.info? 84).map (·.size) = some 5 := by kernel_rfl
theorem sizeAc : (Tryd.prog.info? 56).map (·.size) = some 14 := by kernel_rfl
theorem zPg : ∀ W : World, (zeroValue 84).run Tryd.prog W = .ok (.agg nilPg) W := fun W => Tryd.zeroValue84 W
set_option maxRecDepth 100000 in
theorem zAc : ∀ W : World, (zeroValue 56).run Tryd.prog W = .ok (.agg nilAc) W := fun W => Tryd.zeroValue56 W
def madeP (y : Pg) : Po := ⟨1, 0, false, ((1 + y.c % 4 : Nat) : Int), ((y.p % 3 : Nat) : Int), y.e, y.ad, y.up, false, false, 0, 0, 0, 0, 0, 0, 0, 0, 0, 0, 0⟩
def madeCf (x : Sg) : Cf := ⟨((1 + x.id % 8 : Nat) : Int), ((6 + x.n0 % 6 : Nat) : Int), ((1 + x.n1 % 3 : Nat) : Int), ((1 + x.n2 % 5 : Nat) : Int), 8, 20⟩
def madeS (x : Sg) (l : List Pg) : St := ⟨madeCf x, (l.take 6).map madeP, [], [], [], fun _ => 0, 0⟩
theorem wrS {k : IntKind} {x : Int} (h0 : 0 ≤ x) (h1 : x < 128) : k.wrap x = x := by
 cases k <;> simp [IntKind.wrap, IntKind.bits, IntKind.signed] <;> omega
theorem tmN {x : Nat} {m r : Int} (h : (x : Int) % m = r) : (x : Int).tmod m = r := by
 rw [Int.tmod_eq_emod_of_nonneg (Int.natCast_nonneg _)]
 exact h
theorem rows_range {w : World} {a : Option Addr} {α : Type} {size : Nat} {enc : α → List Value} {l : List α} {k : Nat} {x : α} (h : RowsAt w a size enc l) (hx : l[k]? = some x) : ∃ g off, a = some ⟨g, off, none⟩ ∧ ∀ W, Below w.heap.size w W → W.rangeAt g (off + k * size) (enc x) := by
 rcases h with rfl | ⟨g, off, rfl, hlt, hr⟩
 ·
  cases hx
 ·
  refine ⟨g, off, rfl, fun W hW j u hu => ?_⟩
  have q := hr k x hx j u hu
  rw [show off + (k * size + j) = off + k * size + j by omega] at q
  unfold World.cell? at q ⊢
  rw [hW.block g hlt]
  exact q
end
end Go.Proofs.YteeinlbhcdpnnaaDoor
