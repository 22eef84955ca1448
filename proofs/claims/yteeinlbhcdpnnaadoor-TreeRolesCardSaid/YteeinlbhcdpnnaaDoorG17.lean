import Derived.Test.YteeinlbhcdpnnaaDoorG4
import Derived.Test.YteeinlbhcdpnnaaDoorG15
import Derived.Test.YteeinlbhcdpnnaaDoorG16
import Derived.Test.YteeinlbhcdpnnaaDoorG2
import Derived.Test.YteeinlbhcdpnnaaDoorG10
set_option linter.unusedSimpArgs false
set_option linter.unusedVariables false
namespace Go.Proofs.YteeinlbhcdpnnaaDoor
section
open Go.RowKit
attribute [local irreducible] wpQuiet wpList
set_option maxRecDepth 100000 in
set_option maxHeartbeats 8000000 in
theorem tick_any {w : World} {B : Nat} {s : St} {p1 p2 p3 p4 : Value} (hs : OwS w B s p1 p2 p3 p4) (hr : RolesAt w) (hn : s.po.length ≤ 16) (hid : 0 ≤ s.cf.p0 ∧ s.cf.p0 < 18446744073709551616) (hok : ∀ (k : Nat) (x : Po), (fadeM ⟨s, [], []⟩).s.po[k]? = some x → okP x) : Calls Tryd.prog 12 #[stV s p1 p2 p3 p4] w fun e w' =>
 ∃ u1 u2 u3 u4 tv fv, e = .returned (.tuple #[stV (tickM s).s u1 u2 u3 u4, .agg #[tv, fv]]) ∧ Left w (tickM s) u1 u2 u3 u4 tv fv w' := by
 have HS := Lib.hid hs
 have HR := Lib.hid hr
 have HNN := Lib.hid hn
 have HID := Lib.hid hid
 have HOK := Lib.hid hok
 have HCH := Lib.hid choose_ok
 have HSP := Lib.hid (show (stA s p1 p2 p3 p4).all (·.oneCell') = true from st_one hs)
 have K := Lib.hid (Kb.nil w)
 clear hs hr hn hid hok
 go_enter Tryd.func12, Tryd.ntmps12
 go_upto_region 0 with fail
 refine wp_region_lit ?_
 refine kb_box K.out 40 (.tmp 0) (stA s p1 p2 p3 p4) rfl rfl (by rfl) (pz (h := ?_))
 intro b1 w1 K1
 refine kb_alloc K1.out 40 (nil25) rfl z41 (by rfl) (pz (h := ?_))
 intro b2 w2 K2
 refine kb_alloc K2.out 49 (nilM) rfl zO (by rfl) (pz (h := ?_))
 intro b3 w3 K3
 refine wpList_nil ?_
 go_upto_region 1 with fail
 refine lz (wz1 (.agg (stA s p1 p2 p3 p4)) (h1 := by exact kb_all K3.out 0 rfl 40 _ rfl rfl Tryd.underlying40 rfl (size41)) (h := ?_))
 refine wpList_callV 29 #[stV s p1 p2 p3 p4] (fun v w5 => ∃ c : Cs, v = .pointer (some ⟨c.b, 0, none⟩) ∧ Begun w3 s c w5) (by rfl) (by go_simp) ((begin_any (HS.out.next K3.out.below) (HR.out.next K3.out.below) (by have := HNN.out; omega)).mono fun e w5 ⟨c, q1, _, q2⟩ => ⟨_, q1, c, rfl, q2⟩) ?_
 rintro v w5 ⟨⟨T, b, a, n, m, v2, v3, v4⟩, rfl, hB⟩
 (try simp only [Act.put, gA, gS, gZ, sA, sZ, sS])
 have BG := Lib.hid hB
 clear hB
 refine wz1 (pT b 0) (h := nz ?_)
 obtain ⟨FF, hFF⟩ : ∃ z, z = foot ⟨T, b, a, n, m, v2, v3, v4⟩ (.slice none 0 0) (.slice none 0 0) := ⟨_, rfl⟩
 have HFF := Lib.hid hFF
 obtain ⟨t0, ht0⟩ : ∃ z : TS, z = ⟨s, [], []⟩ := ⟨_, rfl⟩
 have KA0 := Lib.hid (show Ta ⟨w5, ⟨T, b, a, n, m, v2, v3, v4⟩, FF⟩ [] (t0) w5 from by rw [ht0, hFF]; exact BG.out.act.start)
 have HT0 := Lib.hid ht0
 clear ht0 hFF
 have HN := Lib.hid (show n = s.po.length ∧ n ≤ 16 by have q : n = t0.s.po.length := KA0.out.len.1; rw [HT0.out] at q; exact ⟨q, by have := HNN.out; rw [q]; exact this⟩)
 go_upto_region 2 with fail
 refine lz (wz1 (pT b 0) (h := ?_))
 refine ta_act KA0.out 34 #[.pointer (some ⟨b, 0, none⟩)] (fadeM t0) (by rfl) (by go_simp) (fun tv fv h => fadeM_any h) (py (h := ?_))
 intro w11 K11
 refine wpList_nil ?_
 obtain ⟨t1, ht1⟩ : ∃ z : TS, z = fadeM t0 := ⟨_, rfl⟩
 have Kt1 := Lib.hid (show Ta ⟨w5, ⟨T, b, a, n, m, v2, v3, v4⟩, FF⟩ [] (t1) w11 from ht1 ▸ K11.out)
 have Ht1 := Lib.hid ht1
 clear ht1
 have HL1 := Lib.hid (show t1.s.po.length = n ∧ t1.s.cf = s.cf ∧ t1.fl.length = 0 ∧ t1.told.length = 0 by have q := fadeM_is t0; rw [← Ht1.out] at q; rw [HT0.out] at q; exact ⟨q.1.trans HN.out.1.symm, q.2.1, by rw [q.2.2.1]; rfl, by rw [q.2.2.2]; rfl⟩)
 have HSQ := Lib.hid (show n * n ≤ 256 from Nat.mul_le_mul (show n ≤ 16 from HN.out.2) HN.out.2)
 go_upto_region 3 with fail
 refine lz (wz1 (pT b 0) (h := ?_))
 refine ta_act Kt1.out 31 #[.pointer (some ⟨b, 0, none⟩)] (chooseM t1) (by rfl) (by go_simp) (fun tv fv h => HCH.out.ok h (by rw [Ht1.out, HT0.out]; exact HOK.out) (by rw [HL1.out.2.1]; exact HID.out) (by have q1 := HL1.out.2.2.1; have q2 := HSQ.out; have q3 := HN.out.2; show t1.fl.length + (n + 1) * n ≤ 1000; rw [Nat.succ_mul]; omega) (by have q1 := HL1.out.2.2.2; have q3 := HN.out.2; show t1.told.length + n ≤ 1000; omega)) (py (h := ?_))
 intro w12 K12
 refine wpList_nil ?_
 obtain ⟨t2, ht2⟩ : ∃ z : TS, z = chooseM t1 := ⟨_, rfl⟩
 have Kt2 := Lib.hid (show Ta ⟨w5, ⟨T, b, a, n, m, v2, v3, v4⟩, FF⟩ [] (t2) w12 from ht2 ▸ K12.out)
 have Ht2 := Lib.hid ht2
 clear ht2
 have HL2 := Lib.hid (show t2.s.po.length = n ∧ t2.s.cf = s.cf ∧ t2.fl.length ≤ 256 ∧ t2.told.length ≤ 16 by have q := chooseM_is t1; rw [← Ht2.out] at q; have q1 := HL1.out; have q2 := HSQ.out; have q3 := HN.out.2; have q4 := q.2.2.1; have q5 := q.2.2.2; rw [q1.1] at q4 q5; exact ⟨q.1.trans q1.1, q.2.1.trans q1.2.1, by omega, by omega⟩)
 go_upto_region 4 with fail
 refine lz (wz1 (pT b 0) (h := ?_))
 refine ta_act Kt2.out 35 #[.pointer (some ⟨b, 0, none⟩)] (stepMM t2) (by rfl) (by go_simp) (fun tv fv h => stepM_any h (by have q1 := HL2.out.2.2.1; have q2 := HSQ.out; have q3 := HN.out.2; rw [Nat.succ_mul]; omega)) (py (h := ?_))
 intro w13 K13
 refine wpList_nil ?_
 obtain ⟨t3, ht3⟩ : ∃ z : TS, z = stepMM t2 := ⟨_, rfl⟩
 have Kt3 := Lib.hid (show Ta ⟨w5, ⟨T, b, a, n, m, v2, v3, v4⟩, FF⟩ [] (t3) w13 from ht3 ▸ K13.out)
 have Ht3 := Lib.hid ht3
 clear ht3
 have HL3 := Lib.hid (show t3.s.po.length = n ∧ t3.s.cf = s.cf ∧ t3.told.length ≤ 16 by have q := stepMM_is t2; rw [← Ht3.out] at q; have q1 := HL2.out; exact ⟨q.1.trans q1.1, q.2.1.trans q1.2.1, by rw [q.2.2.2]; exact q1.2.2.2⟩)
 go_upto_region 5 with fail
 refine lz (wz6 (pT b 0) (pT b 0) (pT b 0) (pT b 24) (iV t3.s.beat) (iV (IntKind.i64.wrap (t3.s.beat - 1))) (h5 := by have q : w13.cell? ⟨b, 24, none⟩ = some (iV t3.s.beat) := Kt3.out.acell 24 rfl; go_simp) (h := wz3 (pT b 0) (pT b 0) (pT b 24) (h := ?_)))
 refine ta_beat Kt3.out 3 _ _ (IntKind.i64.wrap (t3.s.beat - 1)) rfl (by rfl) rfl rfl (fun W h1 h2 => by go_simp) (py (h := ?_))
 intro w14 K14
 refine wpList_nil ?_
 obtain ⟨t4, ht4⟩ : ∃ z : TS, z = t3.setBeat (IntKind.i64.wrap (t3.s.beat - 1)) := ⟨_, rfl⟩
 have Kt4 := Lib.hid (show Ta ⟨w5, ⟨T, b, a, n, m, v2, v3, v4⟩, FF⟩ [] (t4) w14 from ht4 ▸ K14.out)
 have Ht4 := Lib.hid ht4
 clear ht4
 have HL4 := Lib.hid (show t4.s.po.length = n ∧ t4.s.cf = s.cf ∧ t4.told.length ≤ 16 by rw [Ht4.out]; exact HL3.out)
 have HRS := Lib.hid (show t4.rest = (s.vl, s.st, s.fd, s.c) by rw [Ht4.out]; show t3.rest = _; rw [Ht3.out, stepMM_rest, Ht2.out, chooseM_rest, Ht1.out, fadeM_rest, HT0.out]; rfl)
 have HTK := Lib.hid (show tickM s = if t4.s.beat ≤ 0 then beatM (t4.setBeat t4.s.cf.p2) else t4 by rw [Ht4.out, Ht3.out, Ht2.out, Ht1.out, HT0.out]; rfl)
 go_upto_region 6 with fail
 rcases (show t4.s.beat ≤ 0 ∨ ¬ t4.s.beat ≤ 0 by omega) with hbt | hbt
 case inl =>
  have HBT := Lib.hid hbt
  clear hbt
  refine lz (wz6 (pT b 0) (pT b 0) (pT b 0) (pT b 24) (iV t4.s.beat) (.bool true) (h5 := by have q : w14.cell? ⟨b, 24, none⟩ = some (iV t4.s.beat) := Kt4.out.acell 24 rfl; go_simp) (h6 := by have q := HBT.out; go_simp) (h := nz ?_))
  go_upto_region 7 with fail
  refine lz (wz6 (pT b 0) (pT b 0) (pT b 0) (pT b 0) (pT b 0) (pT b 2) (h := wz4 (iV t4.s.cf.p2) (pT b 0) (pT b 0) (pT b 24) (h1 := by have q : w14.cell? ⟨b, 2, none⟩ = some (iV t4.s.cf.p2) := Kt4.out.acell 2 rfl; go_simp) (h := ?_)))
  refine ta_beat Kt4.out 3 _ _ (t4.s.cf.p2) rfl (by rfl) rfl rfl (fun W h1 h2 => by go_simp) (py (h := ?_))
  intro w15 K15
  refine wpList_nil ?_
  go_upto_region 8 with fail
  refine lz (wz1 (pT b 0) (h := ?_))
  refine ta_act K15.out 36 #[.pointer (some ⟨b, 0, none⟩)] (beatM (t4.setBeat t4.s.cf.p2)) (by rfl) (by go_simp) (fun tv fv h => beat_any h (by have q1 := HL4.out.2.2; have q3 := HN.out.2; show t4.told.length + n ≤ 1000; omega)) (py (h := ?_))
  intro w16 K16
  refine wpList_nil ?_
  go_upto_region 9 with fail
  have eF : tickM s = beatM (t4.setBeat t4.s.cf.p2) := by rw [HTK.out, if_pos HBT.out]
  obtain ⟨tv, fv, hA, hKb, hL, hbk⟩ := Begun.back K3.out BG.out (by have q := K16.out; rw [HFF.out] at q; exact q) (by have q : (beatM (t4.setBeat t4.s.cf.p2)).rest = (s.vl, s.st, s.fd, s.c) := (beatM_rest _).trans HRS.out; exact ⟨congrArg (fun z => z.1) q, congrArg (fun z => z.2.1) q, congrArg (fun z => z.2.2.1) q⟩)
  have HAA := Lib.hid hA
  have HKB := Lib.hid hKb
  have HLL := Lib.hid hL
  have HBK := Lib.hid hbk
  clear hA hKb hL hbk
  have HS1 := Lib.hid (show (stA (beatM (t4.setBeat t4.s.cf.p2)).s (.slice a n m) v2 v3 v4).all (·.oneCell') = true from st_one HLL.out.own)
  have HS2 := Lib.hid (show (#[tv, fv] : Array Value).all (·.oneCell') = true by simp [HAA.out.ot.oneCell, HAA.out.of.oneCell])
  refine lz (wz1 (pT b 0) (h := ?_))
  refine wpList_callT 32 #[.pointer (some ⟨b, 0, none⟩)] (.tuple #[.agg (stA (beatM (t4.setBeat t4.s.cf.p2)).s (.slice a n m) v2 v3 v4), .agg #[tv, fv]]) (fun w9 => Below w16.heap.size w16 w9) (by rfl) (by go_simp) (end_any HAA.out HLL.out.own.o2.oneCell HLL.out.own.o3.oneCell HLL.out.own.o4.oneCell) (py (h := ?_))
  intro w9 B9
  refine wz2 (.agg (stA (beatM (t4.setBeat t4.s.cf.p2)).s (.slice a n m) v2 v3 v4)) (.agg (#[tv, fv])) (h := ?_)
  refine kbm_row (G := (fun k => k = b2 ∨ k = b3)) (HKB.out.next B9.out) (Mv.of_below B9.out) (.inl rfl) 1 rfl 40 _ _ (stA (beatM (t4.setBeat t4.s.cf.p2)).s (.slice a n m) v2 v3 v4) rfl rfl rfl rfl size41 rfl HS1.out ?_
  intro w10 hk10 hm10
  (try simp only [Act.put, gA, gS, gZ, sA, sZ, sS])
  refine kbm_row hk10 hm10 (.inr rfl) 2 rfl 49 _ _ (#[tv, fv]) rfl rfl rfl rfl sizeO rfl HS2.out ?_
  intro w11 hk11 hm11
  (try simp only [Act.put, gA, gS, gZ, sA, sZ, sS])
  refine wpList_nil ?_
  have K11 := Lib.hid hk11
  have M11 := Lib.hid hm11
  clear hk10 hm10 hk11 hm11
  go_wp2_with fail
  refine bodyPost_ret (v := .tuple #[.agg (stA (beatM (t4.setBeat t4.s.cf.p2)).s (.slice a n m) v2 v3 v4), .agg #[tv, fv]]) (results_rows Tryd.results12 _ _ b2 b3 40 49 (stA (beatM (t4.setBeat t4.s.cf.p2)).s (.slice a n m) v2 v3 v4) (#[tv, fv]) rfl rfl (K11.out.at (i := 1) rfl) (K11.out.at (i := 2) rfl) Tryd.underlying40 rfl size41 Tryd.underlying49 rfl sizeO) rfl ?_
  refine ⟨.slice a n m, v2, v3, v4, tv, fv, rfl, HLL.out.mv M11.out K11.out.below (fun k hk => ?_)⟩
  have hk2 : w3.heap.size ≤ k := by have := HBK.out k hk; exact this
  have l2 := (K3.out.at (i := 1) rfl).lt
  have l3 := (K3.out.at (i := 2) rfl).lt
  rintro (e | e) <;> omega
 case inr =>
  have HBT := Lib.hid hbt
  clear hbt
  refine lz (wz6 (pT b 0) (pT b 0) (pT b 0) (pT b 24) (iV t4.s.beat) (.bool false) (h5 := by have q : w14.cell? ⟨b, 24, none⟩ = some (iV t4.s.beat) := Kt4.out.acell 24 rfl; go_simp) (h6 := by have q := HBT.out; go_simp) (h := nz ?_))
  go_upto_region 9 with fail
  have eF : tickM s = t4 := by rw [HTK.out, if_neg HBT.out]
  obtain ⟨tv, fv, hA, hKb, hL, hbk⟩ := Begun.back K3.out BG.out (by have q := Kt4.out; rw [HFF.out] at q; exact q) (by have q : (t4).rest = (s.vl, s.st, s.fd, s.c) := HRS.out; exact ⟨congrArg (fun z => z.1) q, congrArg (fun z => z.2.1) q, congrArg (fun z => z.2.2.1) q⟩)
  have HAA := Lib.hid hA
  have HKB := Lib.hid hKb
  have HLL := Lib.hid hL
  have HBK := Lib.hid hbk
  clear hA hKb hL hbk
  have HS1 := Lib.hid (show (stA (t4).s (.slice a n m) v2 v3 v4).all (·.oneCell') = true from st_one HLL.out.own)
  have HS2 := Lib.hid (show (#[tv, fv] : Array Value).all (·.oneCell') = true by simp [HAA.out.ot.oneCell, HAA.out.of.oneCell])
  refine lz (wz1 (pT b 0) (h := ?_))
  refine wpList_callT 32 #[.pointer (some ⟨b, 0, none⟩)] (.tuple #[.agg (stA (t4).s (.slice a n m) v2 v3 v4), .agg #[tv, fv]]) (fun w9 => Below w14.heap.size w14 w9) (by rfl) (by go_simp) (end_any HAA.out HLL.out.own.o2.oneCell HLL.out.own.o3.oneCell HLL.out.own.o4.oneCell) (py (h := ?_))
  intro w9 B9
  refine wz2 (.agg (stA (t4).s (.slice a n m) v2 v3 v4)) (.agg (#[tv, fv])) (h := ?_)
  refine kbm_row (G := (fun k => k = b2 ∨ k = b3)) (HKB.out.next B9.out) (Mv.of_below B9.out) (.inl rfl) 1 rfl 40 _ _ (stA (t4).s (.slice a n m) v2 v3 v4) rfl rfl rfl rfl size41 rfl HS1.out ?_
  intro w10 hk10 hm10
  (try simp only [Act.put, gA, gS, gZ, sA, sZ, sS])
  refine kbm_row hk10 hm10 (.inr rfl) 2 rfl 49 _ _ (#[tv, fv]) rfl rfl rfl rfl sizeO rfl HS2.out ?_
  intro w11 hk11 hm11
  (try simp only [Act.put, gA, gS, gZ, sA, sZ, sS])
  refine wpList_nil ?_
  have K11 := Lib.hid hk11
  have M11 := Lib.hid hm11
  clear hk10 hm10 hk11 hm11
  go_wp2_with fail
  refine bodyPost_ret (v := .tuple #[.agg (stA (t4).s (.slice a n m) v2 v3 v4), .agg #[tv, fv]]) (results_rows Tryd.results12 _ _ b2 b3 40 49 (stA (t4).s (.slice a n m) v2 v3 v4) (#[tv, fv]) rfl rfl (K11.out.at (i := 1) rfl) (K11.out.at (i := 2) rfl) Tryd.underlying40 rfl size41 Tryd.underlying49 rfl sizeO) rfl ?_
  refine ⟨.slice a n m, v2, v3, v4, tv, fv, rfl, HLL.out.mv M11.out K11.out.below (fun k hk => ?_)⟩
  have hk2 : w3.heap.size ≤ k := by have := HBK.out k hk; exact this
  have l2 := (K3.out.at (i := 1) rfl).lt
  have l3 := (K3.out.at (i := 2) rfl).lt
  rintro (e | e) <;> omega
end
section
open Go.RowKit
attribute [local irreducible] wpQuiet wpList
def begF (dl : Int) (_ : Nat) (x : Po) : Po := switchP (switchP x false x.p6 dl) x.p7 x.p6 dl
def startM (s : St) : TS := chooseM (mapTo (begF s.cf.p3) ((⟨s, [], []⟩ : TS).setBeat 0) s.po.length)
set_option maxRecDepth 100000 in
set_option maxHeartbeats 8000000 in
theorem start_any {w : World} {B : Nat} {s : St} {p1 p2 p3 p4 : Value} (hs : OwS w B s p1 p2 p3 p4) (hr : RolesAt w) (hn : s.po.length ≤ 16) (hid : 0 ≤ s.cf.p0 ∧ s.cf.p0 < 18446744073709551616) (hok : ∀ (k : Nat) (x : Po), (mapTo (begF s.cf.p3) ((⟨s, [], []⟩ : TS).setBeat 0) s.po.length).s.po[k]? = some x → okP x) : Calls Tryd.prog 9 #[stV s p1 p2 p3 p4] w fun e w' =>
 ∃ u1 u2 u3 u4 tv fv, e = .returned (.tuple #[stV (startM s).s u1 u2 u3 u4, .agg #[tv, fv]]) ∧ Left w (startM s) u1 u2 u3 u4 tv fv w' := by
 have HS := Lib.hid hs
 have HR := Lib.hid hr
 have HNN := Lib.hid hn
 have HID := Lib.hid hid
 have HOK := Lib.hid hok
 have HCH := Lib.hid choose_ok
 have K := Lib.hid (Kb.nil w)
 clear hs hr hn hid hok
 go_enter Tryd.func9, Tryd.ntmps9
 go_upto_region 0 with fail
 refine wp_region_lit ?_
 refine kb_box K.out 40 (.tmp 0) (stA s p1 p2 p3 p4) rfl rfl (by rfl) (pz (h := ?_))
 intro b1 w1 K1
 refine kb_alloc K1.out 40 (nil25) rfl z41 (by rfl) (pz (h := ?_))
 intro b2 w2 K2
 refine kb_alloc K2.out 49 (nilM) rfl zO (by rfl) (pz (h := ?_))
 intro b3 w3 K3
 refine wpList_nil ?_
 go_upto_region 1 with fail
 refine lz (wz1 (.agg (stA s p1 p2 p3 p4)) (h1 := by exact kb_all K3.out 0 rfl 40 _ rfl rfl Tryd.underlying40 rfl (size41)) (h := ?_))
 refine wpList_callV 29 #[stV s p1 p2 p3 p4] (fun v w5 => ∃ c : Cs, v = .pointer (some ⟨c.b, 0, none⟩) ∧ Begun w3 s c w5) (by rfl) (by go_simp) ((begin_any (HS.out.next K3.out.below) (HR.out.next K3.out.below) (by have := HNN.out; omega)).mono fun e w5 ⟨c, q1, _, q2⟩ => ⟨_, q1, c, rfl, q2⟩) ?_
 rintro v w5 ⟨⟨T, b, a, n, m, v2, v3, v4⟩, rfl, hB⟩
 (try simp only [Act.put, gA, gS, gZ, sA, sZ, sS])
 have BG := Lib.hid hB
 clear hB
 refine wz1 (pT b 0) (h := nz ?_)
 obtain ⟨FF, hFF⟩ : ∃ z, z = foot ⟨T, b, a, n, m, v2, v3, v4⟩ (.slice none 0 0) (.slice none 0 0) := ⟨_, rfl⟩
 have HFF := Lib.hid hFF
 obtain ⟨t0, ht0⟩ : ∃ z : TS, z = ⟨s, [], []⟩ := ⟨_, rfl⟩
 have KA0 := Lib.hid (show Ta ⟨w5, ⟨T, b, a, n, m, v2, v3, v4⟩, FF⟩ [] (t0) w5 from by rw [ht0, hFF]; exact BG.out.act.start)
 have HT0 := Lib.hid ht0
 clear ht0 hFF
 have LEN := Lib.hid (show n = s.po.length ∧ n ≤ m ∧ m ≤ maxLen by have q := KA0.out.len; rw [HT0.out] at q; exact q)
 have HN := Lib.hid (show n ≤ 16 by have q1 := LEN.out.1; have q2 := HNN.out; omega)
 go_upto_region 2 with fail
 refine lz (wz4 (pT b 0) (pT b 0) (pT b 0) (pT b 24) (h := ?_))
 refine ta_beat KA0.out 3 _ _ (0) rfl (by rfl) rfl rfl (fun W h1 h2 => by go_simp) (py (h := ?_))
 intro w11 K11
 refine wpList_nil ?_
 obtain ⟨t1, ht1⟩ : ∃ z : TS, z = t0.setBeat 0 := ⟨_, rfl⟩
 have Kt1 := Lib.hid (show Ta ⟨w5, ⟨T, b, a, n, m, v2, v3, v4⟩, FF⟩ [] (t1) w11 from ht1 ▸ K11.out)
 have HT1 := Lib.hid (show t1 = (⟨s, [], []⟩ : TS).setBeat 0 by rw [ht1, HT0.out])
 clear ht1
 go_upto_region 3 with fail
 refine lz (wz6 (pT b 0) (pT b 0) (pT b 0) (pT b 6) (.slice a n m) (iV (n : Nat)) (h5 := by have q : w11.cell? ⟨b, 6, none⟩ = some (.slice a n m) := Kt1.out.acell 6 rfl; go_simp) (h := wz1 (iV 0) (h := nz ?_)))
 go_upto_region 4 with fail
 go_loopw [20] (fun i wr => ∃ k : Nat, k ≤ n ∧ i = .int .i64 k ∧ Ta ⟨w5, ⟨T, b, a, n, m, v2, v3, v4⟩, FF⟩ [] (mapTo (begF s.cf.p3) t1 k) wr) (fun i _ => (n - intOf i).toNat)
 case atStart => exact ⟨0, Nat.zero_le _, rfl, Kt1.out⟩
 case round =>
  obtain ⟨k, hk, rfl, hK⟩ := hrel
  obtain ⟨t2, ht2⟩ : ∃ z, z = mapTo (begF s.cf.p3) t1 k := ⟨_, rfl⟩
  rw [← ht2] at hK
  have KR := Lib.hid hK
  have HT2 := Lib.hid ht2
  have HK := Lib.hid hk
  have HC2 := Lib.hid (show t2.s.po.length = n ∧ t2.s.cf = s.cf ∧ t2.fl.length = 0 ∧ t2.told.length = 0 ∧ t2.rest = (s.vl, s.st, s.fd, s.c) by have q := mapTo_is (begF s.cf.p3) t1 k; have q2 := mapTo_rest (begF s.cf.p3) t1 k; rw [← ht2] at q q2; rw [HT1.out] at q q2; exact ⟨q.1.trans LEN.out.1.symm, q.2.1, by rw [q.2.2.1]; rfl, by rw [q.2.2.2]; rfl, q2⟩)
  clear hK ht2 hk
  have i1 : (n : Int) ≤ 100 := by have q : n ≤ 100 := KR.out.few; omega
  by_cases hlt : k < n
  case neg =>
   have HLT := Lib.hid hlt
   clear hlt
   go_upto_region 4 with fail
   refine lz (wz1 (.bool false) (h1 := by have q := HLT.out; go_simp) (h := nz ?_))
   have hkn : n = k := by have q1 := HK.out; have q2 := HLT.out; omega
   have HE2 := Lib.hid (show t2 = mapTo (begF s.cf.p3) ((⟨s, [], []⟩ : TS).setBeat 0) s.po.length by rw [HT2.out, HT1.out, ← LEN.out.1, hkn])
   clear hkn
   have HSQ := Lib.hid (show n * n ≤ 256 from Nat.mul_le_mul (show n ≤ 16 from HN.out) HN.out)
   go_upto_region 9 with fail
   refine lz (wz1 (pT b 0) (h := ?_))
   refine ta_act KR.out 31 #[.pointer (some ⟨b, 0, none⟩)] (chooseM t2) (by rfl) (by go_simp) (fun tv fv h => HCH.out.ok h (by rw [HE2.out]; exact HOK.out) (by rw [HC2.out.2.1]; exact HID.out) (by have q1 := HC2.out.2.2.1; have q2 := HSQ.out; have q3 := HN.out; show t2.fl.length + (n + 1) * n ≤ 1000; rw [Nat.succ_mul]; omega) (by have q1 := HC2.out.2.2.2.1; have q3 := HN.out; show t2.told.length + n ≤ 1000; omega)) (py (h := ?_))
   intro w13 K13
   refine wpList_nil ?_
   go_upto_region 10 with fail
   have eF : startM s = (chooseM t2) := by rw [HE2.out]; rfl
   obtain ⟨tv, fv, hA, hKb, hL, hbk⟩ := Begun.back K3.out BG.out (by have q := K13.out; rw [HFF.out] at q; exact q) (by have q : (chooseM t2).rest = (s.vl, s.st, s.fd, s.c) := (chooseM_rest _).trans HC2.out.2.2.2.2; exact ⟨congrArg (fun z => z.1) q, congrArg (fun z => z.2.1) q, congrArg (fun z => z.2.2.1) q⟩)
   have HAA := Lib.hid hA
   have HKB := Lib.hid hKb
   have HLL := Lib.hid hL
   have HBK := Lib.hid hbk
   clear hA hKb hL hbk
   have HS1 := Lib.hid (show (stA (chooseM t2).s (.slice a n m) v2 v3 v4).all (·.oneCell') = true from st_one HLL.out.own)
   have HS2 := Lib.hid (show (#[tv, fv] : Array Value).all (·.oneCell') = true by simp [HAA.out.ot.oneCell, HAA.out.of.oneCell])
   refine lz (wz1 (pT b 0) (h := ?_))
   refine wpList_callT 32 #[.pointer (some ⟨b, 0, none⟩)] (.tuple #[.agg (stA (chooseM t2).s (.slice a n m) v2 v3 v4), .agg #[tv, fv]]) (fun w9 => Below w13.heap.size w13 w9) (by rfl) (by go_simp) (end_any HAA.out HLL.out.own.o2.oneCell HLL.out.own.o3.oneCell HLL.out.own.o4.oneCell) (py (h := ?_))
   intro w9 B9
   refine wz2 (.agg (stA (chooseM t2).s (.slice a n m) v2 v3 v4)) (.agg (#[tv, fv])) (h := ?_)
   refine kbm_row (G := (fun k => k = b2 ∨ k = b3)) (HKB.out.next B9.out) (Mv.of_below B9.out) (.inl rfl) 1 rfl 40 _ _ (stA (chooseM t2).s (.slice a n m) v2 v3 v4) rfl rfl rfl rfl size41 rfl HS1.out ?_
   intro w10 hk10 hm10
   (try simp only [Act.put, gA, gS, gZ, sA, sZ, sS])
   refine kbm_row hk10 hm10 (.inr rfl) 2 rfl 49 _ _ (#[tv, fv]) rfl rfl rfl rfl sizeO rfl HS2.out ?_
   intro w11 hk11 hm11
   (try simp only [Act.put, gA, gS, gZ, sA, sZ, sS])
   refine wpList_nil ?_
   have K11 := Lib.hid hk11
   have M11 := Lib.hid hm11
   clear hk10 hm10 hk11 hm11
   go_wp2_with fail
   refine bodyPost_ret (v := .tuple #[.agg (stA (chooseM t2).s (.slice a n m) v2 v3 v4), .agg #[tv, fv]]) (results_rows Tryd.results9 _ _ b2 b3 40 49 (stA (chooseM t2).s (.slice a n m) v2 v3 v4) (#[tv, fv]) rfl rfl (K11.out.at (i := 1) rfl) (K11.out.at (i := 2) rfl) Tryd.underlying40 rfl size41 Tryd.underlying49 rfl sizeO) rfl ?_
   refine ⟨.slice a n m, v2, v3, v4, tv, fv, (by first | rfl | (rw [eF])), (by first | exact HLL.out.mv M11.out K11.out.below (fun k hk => by have hk2 := HBK.out k hk; have l2 := (K3.out.at (i := 1) rfl).lt; have l3 := (K3.out.at (i := 2) rfl).lt; rintro (e | e) <;> omega) | (rw [eF]; exact HLL.out.mv M11.out K11.out.below (fun k hk => by have hk2 := HBK.out k hk; have l2 := (K3.out.at (i := 1) rfl).lt; have l3 := (K3.out.at (i := 2) rfl).lt; rintro (e | e) <;> omega)))⟩
  case pos =>
   have HLK := Lib.hid hlt
   obtain ⟨y, hy⟩ : ∃ y, t2.s.po[k]? = some y := ⟨_, List.getElem?_eq_getElem (show k < t2.s.po.length by have q1 : n = t2.s.po.length := KR.out.len.1; omega)⟩
   obtain ⟨g, rfl⟩ : ∃ g, a = some ⟨g, 0, none⟩ := KR.out.ptr hy
   have HY := Lib.hid hy
   clear hy
   clear hlt
   have HLP := Lib.hid (show k < t2.s.po.length from (List.getElem?_eq_some_iff.1 HY.out).1)
   go_upto_region 4 with fail
   refine lz (wz1 (.bool true) (h1 := by have q := HLK.out; go_simp) (h := nz ?_))
   go_upto_region 5 with fail
   refine lz (wz3 (iV (k : Nat)) (pT g (k * 21)) (.agg (poA y)) (h2 := by have q1 : k < n := HLK.out; have q2 : n ≤ m := LEN.out.2.1; go_simp) (h3 := by exact run_loadRange 73 _ rfl g (k * 21) rfl (poA y) _ (KR.out.prange rfl HY.out) Tryd.underlying73 rfl (po_info _)) (h := ?_))
   refine ta_alloc KR.out 73 (nil21) rfl z50 (by rfl) (pz (h := ?_))
   intro b13 w13 K13
   refine wz1 (iV (k : Nat)) (h := ?_)
   refine ta_row K13.out 0 rfl 73 _ _ (poA y) rfl rfl rfl rfl (size50) (by rfl) (po_all _) (py (h := ?_))
   intro w14 K14
   refine wpList_nil ?_
   go_upto_region 6 with fail
   obtain ⟨u, hu⟩ : ∃ u, u = switchP y false y.p6 t2.s.cf.p3 := ⟨_, rfl⟩
   obtain ⟨v, hv⟩ : ∃ v, v = switchP u y.p7 y.p6 t2.s.cf.p3 := ⟨_, rfl⟩
   have HU := Lib.hid hu
   clear hu
   have HV := Lib.hid hv
   clear hv
   refine rk (fun s => [.agg (poA y), pT b13 6, .bool y.p6, pT b 0, pT b 0, pT b 0, pT b 0, .agg (cfA t2.s.cf), .agg (poA u), s, undef]) (fun s Lx w' => W2 w14 73 62 21 21 (poA u) (#[]) (Lx 9) false (Lx 10) false s undef w') (u7) [] [(2, fun s => ⟨b13, 6, none⟩)] [(0, fun s => [(6, pT b13 0)]), (7, fun s => [(31, pT b 0)]), (8, fun s => [(25, .agg (poA y)), (27, .bool y.p6), (32, .agg (cfA t2.s.cf))]), (9, fun s => []), (10, fun s => [(7, s), (33, .agg (poA u))])] [9, 10] (W2.start _) (fun s Lx w' hw => ⟨fun _ => Ta.cell (i := 0) (K14.out.next hw.from1) rfl (by rfl), trivial⟩) (fun _ L1 L2 _ e h => by (try dsimp only at h ⊢); rw [← e 9 (by decide), ← e 10 (by decide)]; exact h) ?_ ?_
   ·
    refine ⟨?_, ?_, ?_, ?_, ?_, trivial⟩ <;> (rintro v7 Lx w' hw hL haft hdc ρ hc hf hG hs o ho; cases ho; try dsimp only [pT, iV, seen] at hw hs)
    ·
     obtain ⟨e6, _⟩ := hs
     exact sq (.agg (poA y)) (l_var 73 _ rfl _ e6 _ _ _ (Ta.at (i := 0) (K14.out.next hw.from1) rfl) Tryd.underlying73 rfl (size50))
    ·
     obtain ⟨e31, _⟩ := hs
     exact sq (.agg (cfA t2.s.cf)) (by obtain ⟨cs, ty, q1, q2⟩ := (K14.out.next hw.from1).conf; exact l_partof 31 _ rfl b 0 e31 ty cs (cfA t2.s.cf).toList _ q1 q2 Tryd.underlying31 rfl (cf_info _))
    ·
     exact sc (.agg (poA u)) 30 #[.agg (poA y), .bool false, .bool y.p6, .agg (cfA t2.s.cf)] (by have q := switch_any y false y.p6 t2.s.cf w'; rw [← HU.out] at q; exact q) (by go_simp) (fun w2 hb => ⟨_, fun _ _ => rfl, rfl, hw.next hb⟩)
    ·
     skip
     have hz := z50 w'
     exact sw (w' := (w'.alloc (.cells (nil21) 73))) (pT (w'.heap.size) 0) (by go_simp) ⟨(pT (w'.heap.size) 0), vs_other (i := 9) rfl hL, rfl, hw.alloc7 rfl hL⟩
    ·
     obtain ⟨e7, e33, _⟩ := hs
     obtain ⟨c, cs, rfl, hB, hz, hk, -⟩ := hw.p7 (haft 9 (by decide))
     exact sr 73 _ _ rfl c (poA u) e7 e33 73 cs hk (size50) (hz.trans rfl) (po_all _) ⟨_, fun _ _ => rfl, rfl, hw.store7 (haft 9 (by decide)) rfl hk hB⟩
   intro v7 Lx w15 hw hall
   try dsimp only at hw
   obtain ⟨b15x, cs0, hv0, hB0, -, hk0, hx0⟩ := hw.p7 (hall 9 (by decide))
   have hx0 := hx0 (hall 10 (by decide))
   subst hx0
   subst hv0
   simp only [pT, iV, List.toList_toArray, putsZ_some, putsZ_none, putsZ_nil, List.setIfInBounds_toArray, List.set_cons_zero, List.set_cons_succ]
   have K15 := Lib.hid (show Ta ⟨w5, ⟨T, b, some ⟨g, 0, none⟩, n, m, v2, v3, v4⟩, FF⟩ [(b13, poA y, 73), (b15x, poA u, 73)] (t2) w15 from (ta_add2 K14.out hw.from1 hk0 hB0))
   clear hw hall
   go_upto_region 7 with fail
   refine rk (fun (_ : Unit) => [pT b 0, pT b 0, pT b 0, pT b 6, .slice (some ⟨g, 0, none⟩) n m, iV (k : Nat), .agg (poA u), pT b13 7, .bool y.p7, pT b13 6, .bool y.p6, pT b 0, pT b 0, pT b 0, pT b 0, .agg (cfA t2.s.cf), .agg (poA v), pT g (k * 21), undef]) (fun _ Lx w' => Ta ⟨w5, ⟨T, b, some ⟨g, 0, none⟩, n, m, v2, v3, v4⟩, FF⟩ [(b13, poA y, 73), (b15x, poA u, 73)] (bif Lx 18 then t2.setPo (t2.s.po.set k v) else t2) w') (()) [] [] [(4, fun _ => [(37, pT b 6)]), (6, fun _ => [(7, pT b15x 0)]), (8, fun _ => [(41, pT b13 7)]), (10, fun _ => [(43, pT b13 6)]), (15, fun _ => [(48, pT b 0)]), (16, fun _ => [(40, .agg (poA u)), (42, .bool y.p7), (44, .bool y.p6), (49, .agg (cfA t2.s.cf))]), (17, fun _ => [(38, .slice (some ⟨g, 0, none⟩) n m), (39, iV (k : Nat))]), (18, fun _ => [(50, .agg (poA v)), (51, pT g (k * 21))])] [18] (K15.out.drew) (fun _ _ _ _ => trivial) (fun _ L1 L2 _ e h => by (try dsimp only at h ⊢); rw [← e 18 (by decide)]; exact h) ?_ ?_
   ·
    refine ⟨?_, ?_, ?_, ?_, ?_, ?_, ?_, ?_, trivial⟩ <;> (rintro _ Lx w' hw hL haft hdc ρ hc hf hG hs o ho; cases ho; try dsimp only [pT, iV, seen] at hw hs)
    ·
     have hn18 : Lx 18 = false := nup (fun cq => hdc 17 (hdc 18 cq 17 (by decide)) 4 (by decide)) hL
     have hwo : Ta ⟨w5, ⟨T, b, some ⟨g, 0, none⟩, n, m, v2, v3, v4⟩, FF⟩ [(b13, poA y, 73), (b15x, poA u, 73)] (t2) w' := by rw [hn18] at hw; exact hw
     exact sq (.slice (some ⟨g, 0, none⟩) n m) (by have q : w'.cell? ⟨b, 6, none⟩ = some (.slice (some ⟨g, 0, none⟩) n m) := hwo.acell 6 rfl; go_simp)
    ·
     obtain ⟨e7, _⟩ := hs
     have hn18 : Lx 18 = false := nup (fun cq => hdc 16 (hdc 18 cq 16 (by decide)) 6 (by decide)) hL
     have hwo : Ta ⟨w5, ⟨T, b, some ⟨g, 0, none⟩, n, m, v2, v3, v4⟩, FF⟩ [(b13, poA y, 73), (b15x, poA u, 73)] (t2) w' := by rw [hn18] at hw; exact hw
     exact sq (.agg (poA u)) (l_var 73 _ rfl _ e7 _ _ _ (Ta.at (i := 1) hwo rfl) Tryd.underlying73 rfl (size50))
    ·
     have hn18 : Lx 18 = false := nup (fun cq => hdc 16 (hdc 18 cq 16 (by decide)) 8 (by decide)) hL
     have hwo : Ta ⟨w5, ⟨T, b, some ⟨g, 0, none⟩, n, m, v2, v3, v4⟩, FF⟩ [(b13, poA y, 73), (b15x, poA u, 73)] (t2) w' := by rw [hn18] at hw; exact hw
     exact sq (.bool y.p7) (by have q : w'.cell? ⟨b13, 7, none⟩ = some (.bool y.p7) := Ta.cell (i := 0) hwo rfl (by rfl); go_simp)
    ·
     have hn18 : Lx 18 = false := nup (fun cq => hdc 16 (hdc 18 cq 16 (by decide)) 10 (by decide)) hL
     have hwo : Ta ⟨w5, ⟨T, b, some ⟨g, 0, none⟩, n, m, v2, v3, v4⟩, FF⟩ [(b13, poA y, 73), (b15x, poA u, 73)] (t2) w' := by rw [hn18] at hw; exact hw
     exact sq (.bool y.p6) (by have q : w'.cell? ⟨b13, 6, none⟩ = some (.bool y.p6) := Ta.cell (i := 0) hwo rfl (by rfl); go_simp)
    ·
     obtain ⟨e48, _⟩ := hs
     have hn18 : Lx 18 = false := nup (fun cq => hdc 16 (hdc 18 cq 16 (by decide)) 15 (by decide)) hL
     have hwo : Ta ⟨w5, ⟨T, b, some ⟨g, 0, none⟩, n, m, v2, v3, v4⟩, FF⟩ [(b13, poA y, 73), (b15x, poA u, 73)] (t2) w' := by rw [hn18] at hw; exact hw
     exact sq (.agg (cfA t2.s.cf)) (by obtain ⟨cs, ty, q1, q2⟩ := hwo.conf; exact l_partof 31 _ rfl b 0 e48 ty cs (cfA t2.s.cf).toList _ q1 q2 Tryd.underlying31 rfl (cf_info _))
    ·
     have hn18 : Lx 18 = false := nup (fun cq => hdc 18 cq 16 (by decide)) hL
     have hwo : Ta ⟨w5, ⟨T, b, some ⟨g, 0, none⟩, n, m, v2, v3, v4⟩, FF⟩ [(b13, poA y, 73), (b15x, poA u, 73)] (t2) w' := by rw [hn18] at hw; exact hw
     exact sc (.agg (poA v)) 30 #[.agg (poA u), .bool y.p7, .bool y.p6, .agg (cfA t2.s.cf)] (by have q := switch_any u y.p7 y.p6 t2.s.cf w'; rw [← HV.out] at q; exact q) (by go_simp) (fun w2 hb => ⟨(), fun _ _ => rfl, rfl, hw.next hb⟩)
    ·
     exact sq (pT g (k * 21)) (by have q1 : k < n := HLK.out; have q2 : n ≤ m := LEN.out.2.1; go_simp)
    ·
     obtain ⟨e50, e51, _⟩ := hs
     have hw0 : Ta ⟨w5, ⟨T, b, some ⟨g, 0, none⟩, n, m, v2, v3, v4⟩, FF⟩ [(b13, poA y, 73), (b15x, poA u, 73)] (t2) w' := by rw [hL] at hw; exact hw
     exact sm 73 _ _ rfl g (k * 21) (poA v) e51 e50 (hw0.pthere rfl HLP.out) (po_info _) (po_all _) ⟨(), fun _ _ => rfl, rfl, hw0.pput rfl HLP.out⟩
   intro _ Lx w16 hw hall
   try dsimp only at hw
   simp only [pT, iV, List.toList_toArray, putsZ_some, putsZ_none, putsZ_nil, List.setIfInBounds_toArray, List.set_cons_zero, List.set_cons_succ]
   rw [hall 18 (by decide)] at hw
   simp only [cond_true] at hw
   have K16 := Lib.hid hw
   clear hw hall
   have K16y := Lib.hid (Ta.left (l := []) K16.out)
   have hlt := HLK.out
   go_wp2_with fail
   go_roundw
   case rel => exact ⟨k + 1, HLK.out, (by go_num : Value.int IntKind.i64 ((k : Int) + 1) = Value.int IntKind.i64 ((k + 1 : Nat) : Int)), by rw [show mapTo (begF s.cf.p3) t1 (k + 1) = t2.setPo (t2.s.po.set k v) from by show mapStep (begF s.cf.p3) (mapTo (begF s.cf.p3) t1 k) k = _; rw [← HT2.out, mapStep_some HY.out]; show t2.setPo (t2.s.po.set k (switchP (switchP y false y.p6 s.cf.p3) y.p7 y.p6 s.cf.p3)) = _; rw [← HC2.out.2.1, ← HU.out, ← HV.out]]; exact K16y.out⟩
   case measure => have := HLK.out; simp [intOf]; omega
end
section
open Go.RowKit
attribute [local irreducible] wpQuiet wpList
set_option maxRecDepth 100000 in
set_option maxHeartbeats 8000000 in
theorem anew_any (x : Po) (u v : Vc) (w : World) : Calls Tryd.prog 80 #[poV (poU x u), vcV v] w fun e w' => e = .returned (.bool (anewB x u v)) ∧ Below w.heap.size w w' := by
 unfold poU
 have K := Lib.hid (Kb.nil w)
 go_enter Tryd.func80, Tryd.ntmps80
 go_upto_region 0 with fail
 refine wp_region_lit ?_
 refine kb_box K.out 73 (.tmp 0) (poA { x with p13 := (u.r : Nat), p14 := (u.c : Nat), p15 := (u.b : Nat), p16 := (u.p : Nat) }) rfl rfl (by rfl) (pz (h := ?_))
 intro b1 w1 K1
 refine kb_box K1.out 71 (.tmp 1) (vcA v) rfl rfl (by rfl) (pz (h := ?_))
 intro b2 w2 K2
 refine wz1 (.bool false) (h := nz ?_)
 go_upto_region 1 with fail
 by_cases h1 : x.p12 = 2
 case neg =>
  refine lz (wz4 (pT b1 12) (iV x.p12) (.bool false) (.bool false) (h2 := by have q : w2.cell? ⟨b1, 12, none⟩ = some (iV x.p12) := K2.out.cell (i := 0) rfl (by rfl); go_simp) (h3 := by have q := h1; go_simp) (h := wk (h := wk (h := wk (h := wk (h := wk (h := wk (h := wz2 (.bool false) (.bool false) (h1 := by exact run_pick_no (.tmp 8) (.tmp 14) (.const (.bool false)) _ rfl rfl rfl) (h := wk (h := wk (h := wk (h := wk (h := wk (h := wk (h := wz2 (.bool false) (.bool false) (h1 := by exact run_pick_no (.tmp 16) (.tmp 22) (.const (.bool false)) _ rfl rfl rfl) (h := nz ?_))))))))))))))))
  go_wp2_with fail
  go_ret
  exact ⟨ret_bool (by simp [anewB, h1]), K2.out.below⟩
 case pos =>
  by_cases h2 : (v.b : Int) = (u.b : Int)
  case neg =>
   refine lz (wz6 (pT b1 12) (iV x.p12) (.bool true) (.bool true) (pT b2 2) (.int .u64 (v.b : Nat)) (h2 := by have q : w2.cell? ⟨b1, 12, none⟩ = some (iV x.p12) := K2.out.cell (i := 0) rfl (by rfl); go_simp) (h3 := by have q := h1; go_simp) (h6 := by have q : w2.cell? ⟨b2, 2, none⟩ = some (.int .u64 (v.b : Nat)) := K2.out.cell (i := 1) rfl (by rfl); go_simp) (h := wz6 (pT b1 13) (pT b1 15) (.int .u64 (u.b : Nat)) (.bool false) (.bool false) (.bool false) (h3 := by have q : w2.cell? ⟨b1, 15, none⟩ = some (.int .u64 (u.b : Nat)) := K2.out.cell (i := 0) rfl (by rfl); go_simp) (h4 := by have q := h2; go_simp) (h5 := by exact run_pick_yes (.tmp 8) (.tmp 14) (.const (.bool false)) _ rfl rfl rfl) (h := wk (h := wk (h := wk (h := wk (h := wk (h := wk (h := wz2 (.bool false) (.bool false) (h1 := by exact run_pick_no (.tmp 16) (.tmp 22) (.const (.bool false)) _ rfl rfl rfl) (h := nz ?_))))))))))
   go_wp2_with fail
   go_ret
   exact ⟨ret_bool (by simp [anewB, h1, show ¬ v.b = u.b by omega]), K2.out.below⟩
  case pos =>
   by_cases h3 : (v.p : Int) = (u.p : Int)
   case neg =>
    refine lz (wz6 (pT b1 12) (iV x.p12) (.bool true) (.bool true) (pT b2 2) (.int .u64 (v.b : Nat)) (h2 := by have q : w2.cell? ⟨b1, 12, none⟩ = some (iV x.p12) := K2.out.cell (i := 0) rfl (by rfl); go_simp) (h3 := by have q := h1; go_simp) (h6 := by have q : w2.cell? ⟨b2, 2, none⟩ = some (.int .u64 (v.b : Nat)) := K2.out.cell (i := 1) rfl (by rfl); go_simp) (h := wz6 (pT b1 13) (pT b1 15) (.int .u64 (u.b : Nat)) (.bool true) (.bool true) (.bool true) (h3 := by have q : w2.cell? ⟨b1, 15, none⟩ = some (.int .u64 (u.b : Nat)) := K2.out.cell (i := 0) rfl (by rfl); go_simp) (h4 := by have q := h2; go_simp) (h5 := by exact run_pick_yes (.tmp 8) (.tmp 14) (.const (.bool false)) _ rfl rfl rfl) (h := wz6 (pT b2 3) (.int .u16 (v.p : Nat)) (pT b1 13) (pT b1 16) (.int .u16 (u.p : Nat)) (.bool false) (h2 := by have q : w2.cell? ⟨b2, 3, none⟩ = some (.int .u16 (v.p : Nat)) := K2.out.cell (i := 1) rfl (by rfl); go_simp) (h5 := by have q : w2.cell? ⟨b1, 16, none⟩ = some (.int .u16 (u.p : Nat)) := K2.out.cell (i := 0) rfl (by rfl); go_simp) (h6 := by have q := h3; go_simp) (h := wz2 (.bool false) (.bool false) (h1 := by exact run_pick_yes (.tmp 16) (.tmp 22) (.const (.bool false)) _ rfl rfl rfl) (h := nz ?_)))))
    go_wp2_with fail
    go_ret
    exact ⟨ret_bool (by simp [anewB, h1, show v.b = u.b by omega, show ¬ v.p = u.p by omega]), K2.out.below⟩
   case pos =>
    refine lz (wz6 (pT b1 12) (iV x.p12) (.bool true) (.bool true) (pT b2 2) (.int .u64 (v.b : Nat)) (h2 := by have q : w2.cell? ⟨b1, 12, none⟩ = some (iV x.p12) := K2.out.cell (i := 0) rfl (by rfl); go_simp) (h3 := by have q := h1; go_simp) (h6 := by have q : w2.cell? ⟨b2, 2, none⟩ = some (.int .u64 (v.b : Nat)) := K2.out.cell (i := 1) rfl (by rfl); go_simp) (h := wz6 (pT b1 13) (pT b1 15) (.int .u64 (u.b : Nat)) (.bool true) (.bool true) (.bool true) (h3 := by have q : w2.cell? ⟨b1, 15, none⟩ = some (.int .u64 (u.b : Nat)) := K2.out.cell (i := 0) rfl (by rfl); go_simp) (h4 := by have q := h2; go_simp) (h5 := by exact run_pick_yes (.tmp 8) (.tmp 14) (.const (.bool false)) _ rfl rfl rfl) (h := wz6 (pT b2 3) (.int .u16 (v.p : Nat)) (pT b1 13) (pT b1 16) (.int .u16 (u.p : Nat)) (.bool true) (h2 := by have q : w2.cell? ⟨b2, 3, none⟩ = some (.int .u16 (v.p : Nat)) := K2.out.cell (i := 1) rfl (by rfl); go_simp) (h5 := by have q : w2.cell? ⟨b1, 16, none⟩ = some (.int .u16 (u.p : Nat)) := K2.out.cell (i := 0) rfl (by rfl); go_simp) (h6 := by have q := h3; go_simp) (h := wz2 (.bool true) (.bool true) (h1 := by exact run_pick_yes (.tmp 16) (.tmp 22) (.const (.bool false)) _ rfl rfl rfl) (h := nz ?_)))))
    go_wp2_with fail
    go_ret
    exact ⟨ret_bool (by simp [anewB, h1, show v.b = u.b by omega, show v.p = u.p by omega]), K2.out.below⟩
set_option maxRecDepth 100000 in
set_option maxHeartbeats 8000000 in
theorem takes_any (x : Po) (u v : Vc) (w : World) : Calls Tryd.prog 66 #[poV (poU x u), vcV v] w fun e w' => e = .returned (.bool (takesB x u v)) ∧ Below w.heap.size w w' := by
 have CA := Lib.hid (fun w => anew_any x u v w)
 have CB := Lib.hid (fun w => better_any v u w)
 unfold poU at CA ⊢
 cases ha : anewB x u v
 case false =>
  cases hb : lessV v u
  case false =>
   have K := Lib.hid (Kb.nil w)
   go_enter Tryd.func66, Tryd.ntmps66
   go_upto_region 0 with fail
   refine wp_region_lit ?_
   refine kb_box K.out 73 (.tmp 0) (poA { x with p13 := (u.r : Nat), p14 := (u.c : Nat), p15 := (u.b : Nat), p16 := (u.p : Nat) }) rfl rfl (by rfl) (pz (h := ?_))
   intro b1 w1 K1
   refine kb_box K1.out 71 (.tmp 1) (vcA v) rfl rfl (by rfl) (pz (h := ?_))
   intro b2 w2 K2
   refine wz1 (.bool false) (h := nz ?_)
   go_upto_region 1 with fail
   by_cases h1 : x.p12 = 0
   case neg =>
    refine lz (wz2 (.agg (poA { x with p13 := (u.r : Nat), p14 := (u.c : Nat), p15 := (u.b : Nat), p16 := (u.p : Nat) })) (.agg (vcA v)) (h1 := by exact kb_all K2.out 0 rfl 73 _ rfl rfl Tryd.underlying73 rfl (size50)) (h2 := by exact kb_all K2.out 1 rfl 71 _ rfl rfl Tryd.underlying71 rfl (sizeV)) (h := ?_))
    refine kb_call K2.out 80 #[.agg (poA { x with p13 := (u.r : Nat), p14 := (u.c : Nat), p15 := (u.b : Nat), p16 := (u.p : Nat) }), .agg (vcA v)] (.bool false) (by rfl) (by go_simp) (by have q := CA.out w2; rw [ha] at q; exact q) (py (h := ?_))
    intro w3 K3
    refine wz4 (.bool false) (.agg (vcA v)) (pT b1 13) (.agg (#[.int .u64 (u.r : Nat), .int .u32 (u.c : Nat), .int .u64 (u.b : Nat), .int .u16 (u.p : Nat)])) (h2 := by exact kb_all K3.out 1 rfl 71 _ rfl rfl Tryd.underlying71 rfl (sizeV)) (h4 := by exact kb_prt K3.out 0 rfl 71 _ 13 rfl rfl (part_of (by kernel_rfl)) Tryd.underlying71 rfl (sizeV)) (h := ?_)
    refine kb_call K3.out 70 #[.agg (vcA v), .agg (#[.int .u64 (u.r : Nat), .int .u32 (u.c : Nat), .int .u64 (u.b : Nat), .int .u16 (u.p : Nat)])] (.bool false) (by rfl) (by go_simp) (by have q := CB.out w3; rw [hb] at q; exact q) (py (h := ?_))
    intro w4 K4
    refine wz6 (.bool false) (.bool false) (pT b1 12) (iV x.p12) (.bool false) (.bool false) (h1 := by exact run_pick_no (.tmp 8) (.const (.bool true)) (.tmp 12) _ rfl rfl rfl) (h4 := by have q : w4.cell? ⟨b1, 12, none⟩ = some (iV x.p12) := K4.out.cell (i := 0) rfl (by rfl); go_simp) (h5 := by have q := h1; go_simp) (h6 := by exact run_pick_no (.tmp 14) (.const (.bool true)) (.tmp 17) _ rfl rfl rfl) (h := wz1 (.bool false) (h := nz ?_))
    go_wp2_with fail
    go_ret
    exact ⟨ret_bool (by simp [takesB, ha, hb, h1]), K4.out.below⟩
   case pos =>
    refine lz (wz2 (.agg (poA { x with p13 := (u.r : Nat), p14 := (u.c : Nat), p15 := (u.b : Nat), p16 := (u.p : Nat) })) (.agg (vcA v)) (h1 := by exact kb_all K2.out 0 rfl 73 _ rfl rfl Tryd.underlying73 rfl (size50)) (h2 := by exact kb_all K2.out 1 rfl 71 _ rfl rfl Tryd.underlying71 rfl (sizeV)) (h := ?_))
    refine kb_call K2.out 80 #[.agg (poA { x with p13 := (u.r : Nat), p14 := (u.c : Nat), p15 := (u.b : Nat), p16 := (u.p : Nat) }), .agg (vcA v)] (.bool false) (by rfl) (by go_simp) (by have q := CA.out w2; rw [ha] at q; exact q) (py (h := ?_))
    intro w3 K3
    refine wz4 (.bool false) (.agg (vcA v)) (pT b1 13) (.agg (#[.int .u64 (u.r : Nat), .int .u32 (u.c : Nat), .int .u64 (u.b : Nat), .int .u16 (u.p : Nat)])) (h2 := by exact kb_all K3.out 1 rfl 71 _ rfl rfl Tryd.underlying71 rfl (sizeV)) (h4 := by exact kb_prt K3.out 0 rfl 71 _ 13 rfl rfl (part_of (by kernel_rfl)) Tryd.underlying71 rfl (sizeV)) (h := ?_)
    refine kb_call K3.out 70 #[.agg (vcA v), .agg (#[.int .u64 (u.r : Nat), .int .u32 (u.c : Nat), .int .u64 (u.b : Nat), .int .u16 (u.p : Nat)])] (.bool false) (by rfl) (by go_simp) (by have q := CB.out w3; rw [hb] at q; exact q) (py (h := ?_))
    intro w4 K4
    refine wz6 (.bool false) (.bool false) (pT b1 12) (iV x.p12) (.bool true) (.bool true) (h1 := by exact run_pick_no (.tmp 8) (.const (.bool true)) (.tmp 12) _ rfl rfl rfl) (h4 := by have q : w4.cell? ⟨b1, 12, none⟩ = some (iV x.p12) := K4.out.cell (i := 0) rfl (by rfl); go_simp) (h5 := by have q := h1; go_simp) (h6 := by exact run_pick_no (.tmp 14) (.const (.bool true)) (.tmp 17) _ rfl rfl rfl) (h := wz1 (.bool true) (h := nz ?_))
    go_wp2_with fail
    go_ret
    exact ⟨ret_bool (by simp [takesB, ha, hb, h1]), K4.out.below⟩
  case true =>
   have K := Lib.hid (Kb.nil w)
   go_enter Tryd.func66, Tryd.ntmps66
   go_upto_region 0 with fail
   refine wp_region_lit ?_
   refine kb_box K.out 73 (.tmp 0) (poA { x with p13 := (u.r : Nat), p14 := (u.c : Nat), p15 := (u.b : Nat), p16 := (u.p : Nat) }) rfl rfl (by rfl) (pz (h := ?_))
   intro b1 w1 K1
   refine kb_box K1.out 71 (.tmp 1) (vcA v) rfl rfl (by rfl) (pz (h := ?_))
   intro b2 w2 K2
   refine wz1 (.bool false) (h := nz ?_)
   go_upto_region 1 with fail
   refine lz (wz2 (.agg (poA { x with p13 := (u.r : Nat), p14 := (u.c : Nat), p15 := (u.b : Nat), p16 := (u.p : Nat) })) (.agg (vcA v)) (h1 := by exact kb_all K2.out 0 rfl 73 _ rfl rfl Tryd.underlying73 rfl (size50)) (h2 := by exact kb_all K2.out 1 rfl 71 _ rfl rfl Tryd.underlying71 rfl (sizeV)) (h := ?_))
   refine kb_call K2.out 80 #[.agg (poA { x with p13 := (u.r : Nat), p14 := (u.c : Nat), p15 := (u.b : Nat), p16 := (u.p : Nat) }), .agg (vcA v)] (.bool false) (by rfl) (by go_simp) (by have q := CA.out w2; rw [ha] at q; exact q) (py (h := ?_))
   intro w3 K3
   refine wz4 (.bool false) (.agg (vcA v)) (pT b1 13) (.agg (#[.int .u64 (u.r : Nat), .int .u32 (u.c : Nat), .int .u64 (u.b : Nat), .int .u16 (u.p : Nat)])) (h2 := by exact kb_all K3.out 1 rfl 71 _ rfl rfl Tryd.underlying71 rfl (sizeV)) (h4 := by exact kb_prt K3.out 0 rfl 71 _ 13 rfl rfl (part_of (by kernel_rfl)) Tryd.underlying71 rfl (sizeV)) (h := ?_)
   refine kb_call K3.out 70 #[.agg (vcA v), .agg (#[.int .u64 (u.r : Nat), .int .u32 (u.c : Nat), .int .u64 (u.b : Nat), .int .u16 (u.p : Nat)])] (.bool true) (by rfl) (by go_simp) (by have q := CB.out w3; rw [hb] at q; exact q) (py (h := ?_))
   intro w4 K4
   refine wz2 (.bool true) (.bool true) (h1 := by exact run_pick_no (.tmp 8) (.const (.bool true)) (.tmp 12) _ rfl rfl rfl) (h := wk (h := wk (h := wk (h := wz2 (.bool true) (.bool true) (h1 := by exact run_pick_yes (.tmp 14) (.const (.bool true)) (.tmp 17) _ rfl rfl rfl) (h := nz ?_)))))
   go_wp2_with fail
   go_ret
   exact ⟨ret_bool (by simp [takesB, ha, hb]), K4.out.below⟩
 case true =>
  have K := Lib.hid (Kb.nil w)
  go_enter Tryd.func66, Tryd.ntmps66
  go_upto_region 0 with fail
  refine wp_region_lit ?_
  refine kb_box K.out 73 (.tmp 0) (poA { x with p13 := (u.r : Nat), p14 := (u.c : Nat), p15 := (u.b : Nat), p16 := (u.p : Nat) }) rfl rfl (by rfl) (pz (h := ?_))
  intro b1 w1 K1
  refine kb_box K1.out 71 (.tmp 1) (vcA v) rfl rfl (by rfl) (pz (h := ?_))
  intro b2 w2 K2
  refine wz1 (.bool false) (h := nz ?_)
  go_upto_region 1 with fail
  refine lz (wz2 (.agg (poA { x with p13 := (u.r : Nat), p14 := (u.c : Nat), p15 := (u.b : Nat), p16 := (u.p : Nat) })) (.agg (vcA v)) (h1 := by exact kb_all K2.out 0 rfl 73 _ rfl rfl Tryd.underlying73 rfl (size50)) (h2 := by exact kb_all K2.out 1 rfl 71 _ rfl rfl Tryd.underlying71 rfl (sizeV)) (h := ?_))
  refine kb_call K2.out 80 #[.agg (poA { x with p13 := (u.r : Nat), p14 := (u.c : Nat), p15 := (u.b : Nat), p16 := (u.p : Nat) }), .agg (vcA v)] (.bool true) (by rfl) (by go_simp) (by have q := CA.out w2; rw [ha] at q; exact q) (py (h := ?_))
  intro w3 K3
  refine wz1 (.bool true) (h := wk (h := wk (h := wk (h := wk (h := wz2 (.bool true) (.bool true) (h1 := by exact run_pick_yes (.tmp 8) (.const (.bool true)) (.tmp 12) _ rfl rfl rfl) (h := wk (h := wk (h := wk (h := wz2 (.bool true) (.bool true) (h1 := by exact run_pick_yes (.tmp 14) (.const (.bool true)) (.tmp 17) _ rfl rfl rfl) (h := nz ?_))))))))))
  go_wp2_with fail
  go_ret
  exact ⟨ret_bool (by simp [takesB, ha]), K3.out.below⟩
end
end Go.Proofs.YteeinlbhcdpnnaaDoor
