import Derived.Test.YtelohoomlgjjmaaDoorG9
import Derived.Test.YtelohoomlgjjmaaDoorG5
import Derived.Deep.RegionHeld3
import Derived.Deep.DeepCutAuto
set_option linter.unusedSimpArgs false
set_option linter.unusedVariables false
namespace Go.Proofs.YtelohoomlgjjmaaDoor
section
/- To which ports a frame goes. -/
open Go.RowKit
attribute [local irreducible] wpQuiet

/-- The ports that lead to a station; all, where nothing is known of it. -/
def towN (k : Nat) (ls : List Se) (lf : List En) : Nat := if (findS k ls).2 = true then (findS k ls).1 else if (findF k lf).2 = true then ofS [(findF k lf).1] else 4294967295
theorem kySizeP : (Tryd.prog.info? 63).map (·.size) = some 7 := by kernel_rfl
theorem k7 {W : World} {c vid a : Nat} (h : Blk W c (kyA vid a) 63) :
    W.cell? ⟨c, 0, none⟩ = some (.int .u16 (vid : Nat)) ∧ W.cell? ⟨c, 1, none⟩ = some (.int .u8 (byteF a 0 : Nat)) ∧ W.cell? ⟨c, 2, none⟩ = some (.int .u8 (byteF a 1 : Nat)) ∧ W.cell? ⟨c, 3, none⟩ = some (.int .u8 (byteF a 2 : Nat)) ∧ W.cell? ⟨c, 4, none⟩ = some (.int .u8 (byteF a 3 : Nat)) ∧ W.cell? ⟨c, 5, none⟩ = some (.int .u8 (byteF a 4 : Nat)) ∧ W.cell? ⟨c, 6, none⟩ = some (.int .u8 (byteF a 5 : Nat)) :=
  ⟨h.cell 0, h.cell 1, h.cell 2, h.cell 3, h.cell 4, h.cell 5, h.cell 6⟩

set_option maxRecDepth 100000 in
set_option maxHeartbeats 4000000 in
theorem towards_any {w0 w : World} {i : Ix} {lv : List Vl} {ls : List Se} {lf : List En} (vid a : Nat) (ha : a < 281474976710656) (h : T3 w0 i lv ls lf w) :
    Calls Tryd.prog 38 #[.agg (t3A i), kyV vid a] w fun e w' => e = .returned (.int .u32 (towN (keyN vid a) ls lf : Nat)) ∧ Below w.heap.size w w' := by
  obtain ⟨G, hG⟩ : ∃ G, G = w.heap.size := ⟨_, rfl⟩
  obtain ⟨w1, hw1⟩ : ∃ w1, w1 = (w.alloc (.cells (t3A i) 35)).alloc (.cells (kyA vid a) 63) := ⟨_, rfl⟩
  have hb1 : Below w.heap.size w w1 := by rw [hw1]; exact ((Below.refl w.heap.size w).alloc (Nat.le_refl _) _).alloc (by simp) _
  have KT := Lib.hid (show Blk w1 G (t3A i) 35 by rw [hw1, hG]; exact (Blk.new _ _ _).alloc _)
  have KK := Lib.hid (show Blk w1 (G + 1) (kyA vid a) 63 by
    have := Blk.new (w.alloc (.cells (t3A i) 35)) (kyA vid a) 63
    rw [hw1, hG]
    simpa using this)
  have H1 := Lib.hid (h.next hb1)
  have HA := Lib.hid ha
  have HB1 := Lib.hid hb1
  have HW := Lib.hid hw1
  have HG := Lib.hid hG
  obtain ⟨sv, hsv⟩ : ∃ sv, sv = (findS (keyN vid a) ls).1 := ⟨_, rfl⟩
  obtain ⟨sf, hsf⟩ : ∃ sf, sf = (findS (keyN vid a) ls).2 := ⟨_, rfl⟩
  obtain ⟨fv, hfv⟩ : ∃ fv, fv = (findF (keyN vid a) lf).1 := ⟨_, rfl⟩
  obtain ⟨ff, hff⟩ : ∃ ff, ff = (findF (keyN vid a) lf).2 := ⟨_, rfl⟩
  obtain ⟨R, hR⟩ : ∃ R, R = towN (keyN vid a) ls lf := ⟨_, rfl⟩
  have HR := Lib.hid (show R = if sf = true then sv else if ff = true then ofS [fv] else 4294967295 by rw [hR, hsv, hsf, hfv, hff]; rfl)
  rw [← hR]
  have GS := Lib.hid (show ∀ W, T3 w0 i lv ls lf W → Calls Tryd.prog 49 #[.pointer (some ⟨i.b2, 0, none⟩), kyV vid a] W fun e w' => e = .returned (.tuple #[.int .u32 (sv : Nat), .bool sf]) ∧ Below W.heap.size W w' from fun W hW => by rw [hsv, hsf]; exact get_s vid a HA.out hW.tabS)
  have GF := Lib.hid (show ∀ W, T3 w0 i lv ls lf W → Calls Tryd.prog 12 #[.pointer (some ⟨i.b3, 0, none⟩), kyV vid a] W fun e w' => e = .returned (.tuple #[.int .i64 fv, .bool ff]) ∧ Below W.heap.size W w' from fun W hW => by rw [hfv, hff]; exact find_f vid a HA.out hW.tabF)
  have OF := Lib.hid (show ∀ W : World, Calls Tryd.prog 50 #[.slice (some ⟨W.heap.size, 0, none⟩) 1 1] (W.alloc (.cells #[.int .i64 fv] 3)) fun e w' => e = .returned (.int .u32 (ofS [fv] : Nat)) ∧ (W.alloc (.cells #[.int .i64 fv] 3)) = w' from fun W => of_any _ 1 [fv] _ (ints_new W [fv]) (by simp))
  clear hsv hsf hfv hff hR hG hw1 hb1 ha h
  go_enter Tryd.func38, Tryd.ntmps38
  go_upto_region 1 with fail
  rw [← HW.out, ← HG.out]
  have d1 : w1.cell? ⟨G, 1, none⟩ = some (.pointer (some ⟨i.b2, 0, none⟩)) := KT.out.cell 1
  obtain ⟨k0, k1, k2, k3, k4, k5, k6⟩ := k7 KK.out
  go_upto_region 2 with (go_at_call 49; refine (GS.out w1 H1.out).mono ?_; rintro e w2 ⟨rfl, hb2⟩)
  have H2 := Lib.hid (H1.out.next hb2)
  have B2 := Lib.hid (HB1.out.trans (hb2.mono HB1.out.size))
  have KT2 := Lib.hid (KT.out.below hb2 KT.out.lt)
  have KK2 := Lib.hid (KK.out.below hb2 KK.out.lt)
  clear hb2 d1 k0 k1 k2 k3 k4 k5 k6
  cases sf with
  | true =>
    have RR := Lib.hid (show sv = R by rw [HR.out, if_pos rfl])
    go_wp2_with fail
    go_ret
    exact ⟨by rw [← RR.out]; rfl, B2.out⟩
  | false =>
    have d2 : w2.cell? ⟨G, 2, none⟩ = some (.pointer (some ⟨i.b3, 0, none⟩)) := KT2.out.cell 2
    obtain ⟨k0, k1, k2, k3, k4, k5, k6⟩ := k7 KK2.out
    go_upto_region 5 with (go_at_call 12; refine (GF.out w2 H2.out).mono ?_; rintro e w3 ⟨rfl, hb3⟩)
    have B3 := Lib.hid (B2.out.trans (hb3.mono B2.out.size))
    clear hb3 d2 k0 k1 k2 k3 k4 k5 k6
    cases ff with
    | true =>
      have RR := Lib.hid (show ofS [fv] = R by rw [HR.out, if_neg (by decide), if_pos rfl])
      go_wp2_with (go_at_call 50; refine (OF.out _).mono ?_; rintro e w4 ⟨rfl, rfl⟩)
      go_ret
      exact ⟨by rw [← RR.out]; rfl, B3.out.alloc B3.out.size _⟩
    | false =>
      have RR := Lib.hid (show 4294967295 = R by rw [HR.out, if_neg (by decide), if_neg (by decide)])
      go_wp2_with fail
      go_ret
      exact ⟨by rw [← RR.out]; rfl, B3.out⟩

/-- To which ports a frame goes. -/
def portsN (from' : Int) (vid a opn : Nat) (lv : List Vl) (ls : List Se) (lf : List En) : Nat :=
  if (findV vid lv).2 = false ∨ resB (byteF a) = true then 0 else (withoutS (findV vid lv).1.mem from' &&& opn) &&& towN (keyN vid a) ls lf
theorem macSizeP : (Tryd.prog.info? 40).map (·.size) = some 6 := by kernel_rfl
theorem k6c {W : World} {c a : Nat} (h : Blk W c (macA (byteF a)) 40) :
    W.cell? ⟨c, 0, none⟩ = some (.int .u8 (byteF a 0 : Nat)) ∧ W.cell? ⟨c, 1, none⟩ = some (.int .u8 (byteF a 1 : Nat)) ∧ W.cell? ⟨c, 2, none⟩ = some (.int .u8 (byteF a 2 : Nat)) ∧ W.cell? ⟨c, 3, none⟩ = some (.int .u8 (byteF a 3 : Nat)) ∧ W.cell? ⟨c, 4, none⟩ = some (.int .u8 (byteF a 4 : Nat)) ∧ W.cell? ⟨c, 5, none⟩ = some (.int .u8 (byteF a 5 : Nat)) :=
  ⟨h.cell 0, h.cell 1, h.cell 2, h.cell 3, h.cell 4, h.cell 5⟩
theorem towN_lt {k : Nat} {ls : List Se} (lf : List En) (h : SmallS ls) : towN k ls lf < 4294967296 := by
  unfold towN
  split
  · have := findS_small h k; omega
  · split
    · have := ofS_lt [(findF k lf).1]; omega
    · omega

set_option maxRecDepth 100000 in
set_option maxHeartbeats 8000000 in
theorem ports_any {w0 w : World} {i : Ix} {lv : List Vl} {ls : List Se} {lf : List En} (from' : Int) (vid a opn : Nat) (ha : a < 281474976710656) (ho : opn < 4294967296) (h : T3 w0 i lv ls lf w) :
    Calls Tryd.prog 17 #[.agg (t3A i), .int .i64 from', .int .u16 (vid : Nat), mac (byteF a), .int .u32 (opn : Nat)] w fun e w' => e = .returned (.int .u32 (portsN from' vid a opn lv ls lf : Nat)) ∧ Below w.heap.size w w' := by
  obtain ⟨G, hG⟩ : ∃ G, G = w.heap.size := ⟨_, rfl⟩
  obtain ⟨w1, hw1⟩ : ∃ w1, w1 = (w.alloc (.cells (t3A i) 35)).alloc (.cells (macA (byteF a)) 40) := ⟨_, rfl⟩
  have hb1 : Below w.heap.size w w1 := by rw [hw1]; exact ((Below.refl w.heap.size w).alloc (Nat.le_refl _) _).alloc (by simp) _
  have KT := Lib.hid (show Blk w1 G (t3A i) 35 by rw [hw1, hG]; exact (Blk.new _ _ _).alloc _)
  have KM := Lib.hid (show Blk w1 (G + 1) (macA (byteF a)) 40 by
    have := Blk.new (w.alloc (.cells (t3A i) 35)) (macA (byteF a)) 40
    rw [hw1, hG]
    simpa using this)
  have H1 := Lib.hid (h.next hb1)
  have HA := Lib.hid ha
  have HO := Lib.hid ho
  have HB1 := Lib.hid hb1
  have HW := Lib.hid hw1
  have HG := Lib.hid hG
  have SZT := Lib.hid t3Size
  have SZM := Lib.hid macSizeP
  have SM := Lib.hid (findV_small h.smV vid)
  obtain ⟨xx, hxx⟩ : ∃ xx, xx = (findV vid lv).1 := ⟨_, rfl⟩
  obtain ⟨found, hfo⟩ : ∃ found, found = (findV vid lv).2 := ⟨_, rfl⟩
  obtain ⟨res, hres⟩ : ∃ res, res = resB (byteF a) := ⟨_, rfl⟩
  obtain ⟨tow, htow⟩ : ∃ tow, tow = towN (keyN vid a) ls lf := ⟨_, rfl⟩
  have HTL := Lib.hid (show tow < 4294967296 by rw [htow]; exact towN_lt lf h.smS)
  obtain ⟨R, hR⟩ : ∃ R, R = portsN from' vid a opn lv ls lf := ⟨_, rfl⟩
  have HR := Lib.hid (show R = if found = false ∨ res = true then 0 else (withoutS xx.mem from' &&& opn) &&& tow by rw [hR, hxx, hfo, hres, htow]; rfl)
  rw [← hR]
  have GV := Lib.hid (show ∀ W, T3 w0 i lv ls lf W → Calls Tryd.prog 16 #[.pointer (some ⟨i.b1, 0, none⟩), .int .u16 (vid : Nat)] W fun e w' => e = .returned (.tuple #[vlV xx, .bool found]) ∧ Below W.heap.size W w' from fun W hW => by rw [hxx, hfo]; exact get_find vid hW.tabV)
  have RS := Lib.hid (show ∀ W : World, Calls Tryd.prog 10 #[mac (byteF a)] W fun e w' => e = .returned (.bool res) ∧ Below W.heap.size W w' from fun W => by rw [hres]; exact reserved_any (byteF a) W (byteF_six a))
  have TW := Lib.hid (show ∀ W, T3 w0 i lv ls lf W → Calls Tryd.prog 38 #[.agg (t3A i), kyV vid a] W fun e w' => e = .returned (.int .u32 (tow : Nat)) ∧ Below W.heap.size W w' from fun W hW => by rw [htow]; exact towards_any vid a HA.out hW)
  rw [← hxx] at SM
  clear hxx hfo hres htow hR hG hw1 hb1 ha ho h
  obtain ⟨xv, m, u⟩ := xx
  have WO := Lib.hid (show ∀ W : World, Calls Tryd.prog 37 #[.int .u32 (m : Nat), .int .i64 from'] W fun e w' => e = .returned (.int .u32 (withoutS m from' : Nat)) ∧ W = w' from fun W => without_any m from' W (Nat.lt_trans SM.out.1 (by decide)))
  obtain ⟨wm, hwm⟩ : ∃ wm, wm = withoutS m from' := ⟨_, rfl⟩
  have HWM := Lib.hid (show wm < 4294967296 by rw [hwm]; exact withoutS_lt m from' (Nat.lt_trans SM.out.1 (by decide)))
  simp only at HR
  rw [← hwm] at HR WO
  clear hwm
  go_enter Tryd.func17, Tryd.ntmps17
  go_upto_region 1 with fail
  rw [← HW.out, ← HG.out]
  have d0 : w1.cell? ⟨G, 0, none⟩ = some (.pointer (some ⟨i.b1, 0, none⟩)) := KT.out.cell 0
  go_upto_region 2 with (go_at_call 16; refine (GV.out w1 H1.out).mono ?_; rintro e w2 ⟨rfl, hb2⟩)
  obtain ⟨V, hV⟩ : ∃ V, V = w2.heap.size := ⟨_, rfl⟩
  obtain ⟨W2, hW2⟩ : ∃ W2, W2 = w2.alloc (.cells #[.int .u16 (xv : Nat), .int .u32 (m : Nat), .int .u32 (u : Nat)] 73) := ⟨_, rfl⟩
  have b12 : Below w1.heap.size w1 W2 := by rw [hW2]; exact hb2.alloc hb2.size _
  have KV := Lib.hid (show Blk W2 V #[.int .u16 (xv : Nat), .int .u32 (m : Nat), .int .u32 (u : Nat)] 73 by rw [hW2, hV]; exact Blk.new _ _ _)
  have H2 := Lib.hid (H1.out.next b12)
  have B2 := Lib.hid (HB1.out.trans (b12.mono HB1.out.size))
  have KT2 := Lib.hid (KT.out.below b12 KT.out.lt)
  have KM2 := Lib.hid (KM.out.below b12 KM.out.lt)
  rw [← hV, ← hW2]
  clear hb2 hV hW2 b12 d0
  cases found with
  | false =>
    have RR := Lib.hid (show 0 = R by rw [HR.out, if_pos (.inl rfl)])
    go_wp2_with fail
    go_ret
    exact ⟨by rw [← RR.out]; rfl, B2.out⟩
  | true =>
    obtain ⟨m0, m1, m2, m3, m4, m5⟩ := k6c KM2.out
    cases res with
    | true =>
      have RR := Lib.hid (show 0 = R by rw [HR.out, if_pos (.inr rfl)])
      go_wp2_with (go_at_call 10; refine (RS.out _).mono ?_; rintro e w3 ⟨rfl, hb3⟩; have B3 := Lib.hid (B2.out.trans (hb3.mono B2.out.size)); clear hb3)
      go_ret
      exact ⟨by rw [← RR.out]; rfl, B3.out⟩
    | false =>
      have RR := Lib.hid (show (wm &&& opn) &&& tow = R by rw [HR.out, if_neg (by decide)])
      have A1 := Lib.hid (u32_and_nat wm opn HWM.out HO.out)
      have A2 := Lib.hid (u32_and_nat (wm &&& opn) tow (Nat.lt_of_le_of_lt Nat.and_le_left HWM.out) HTL.out)
      go_upto_region 4 with (go_at_call 10; refine (RS.out _).mono ?_; rintro e w3 ⟨rfl, hb3⟩)
      have H3 := Lib.hid (H2.out.next hb3)
      have B3 := Lib.hid (B2.out.trans (hb3.mono B2.out.size))
      have KV3 := Lib.hid (show ∀ W, Below w3.heap.size w3 W → W.cell? ⟨V, 1, none⟩ = some (.int .u32 (m : Nat)) from fun W hW => by
        have k := KV.out.below hb3 KV.out.lt
        rw [(k.below hW k.lt).cell]
        rfl)
      have KT3 := Lib.hid (show ∀ W, Below w3.heap.size w3 W → Blk W G (t3A i) 35 from fun W hW => by
        have k := KT2.out.below hb3 KT2.out.lt
        exact k.below hW k.lt)
      have KM3 := Lib.hid (show ∀ W, Below w3.heap.size w3 W → Blk W (G + 1) (macA (byteF a)) 40 from fun W hW => by
        have k := KM2.out.below hb3 KM2.out.lt
        exact k.below hW k.lt)
      clear hb3 m0 m1 m2 m3 m4 m5
      refine wp_region_quiet (C := Below w3.heap.size w3) (by kernel_rfl) (by kernel_rfl) (Below.refl _ _).drew ?_
      (refine q_val (v := ?_) (by rfl) ?_ ?_; rotate_left; (· (intro w hC; go_simp; try with_reducible rfl)); (try simp only [Act.put, List.getElem_toArray, List.getElem_cons_succ, List.getElem_cons_zero, List.setIfInBounds_toArray, List.set_cons_zero, List.set_cons_succ]))
      (refine q_val (v := ?_) (by rfl) ?_ ?_; rotate_left; (· (intro w hC; have q := KV3.out w hC; go_simp; try with_reducible rfl)); (try simp only [Act.put, List.getElem_toArray, List.getElem_cons_succ, List.getElem_cons_zero, List.setIfInBounds_toArray, List.set_cons_zero, List.set_cons_succ]))
      (refine q_val (v := ?_) (by rfl) ?_ ?_; rotate_left; (· (intro w hC; go_simp; try with_reducible rfl)); (try simp only [Act.put, List.getElem_toArray, List.getElem_cons_succ, List.getElem_cons_zero, List.setIfInBounds_toArray, List.set_cons_zero, List.set_cons_succ]))
      (refine q_call (v := .int .u32 (wm : Nat)) 37 #[.int .u32 (m : Nat), .int .i64 from'] (by rfl) (fun w hC => by go_simp) (fun w hC => (WO.out w).mono fun e w' ⟨q1, q2⟩ => ⟨q1, q2 ▸ hC⟩) ?_; (try simp only [Act.put, List.getElem_toArray, List.getElem_cons_succ, List.getElem_cons_zero, List.setIfInBounds_toArray, List.set_cons_zero, List.set_cons_succ]))
      (refine q_val (v := ?_) (by rfl) ?_ ?_; rotate_left; (· (intro w hC; go_simp; try with_reducible rfl)); (try simp only [Act.put, List.getElem_toArray, List.getElem_cons_succ, List.getElem_cons_zero, List.setIfInBounds_toArray, List.set_cons_zero, List.set_cons_succ]))
      (refine q_val (v := .int .u32 ((wm &&& opn : Nat) : Nat)) (by rfl) (fun w hC => by rw [← A1.out]; go_simp) ?_; (try simp only [Act.put, List.getElem_toArray, List.getElem_cons_succ, List.getElem_cons_zero, List.setIfInBounds_toArray, List.set_cons_zero, List.set_cons_succ]))
      (refine q_val (v := Value.agg (t3A i)) (by rfl) (fun w hC => run_loadVar_of 35 _ rfl G rfl 35 (t3A i) _ (KT3.out w hC) Tryd.underlying35 rfl SZT.out) ?_; (try simp only [Act.put, List.getElem_toArray, List.getElem_cons_succ, List.getElem_cons_zero, List.setIfInBounds_toArray, List.set_cons_zero, List.set_cons_succ]))
      (refine q_val (v := ?_) (by rfl) ?_ ?_; rotate_left; (· (intro w hC; go_simp; try with_reducible rfl)); (try simp only [Act.put, List.getElem_toArray, List.getElem_cons_succ, List.getElem_cons_zero, List.setIfInBounds_toArray, List.set_cons_zero, List.set_cons_succ]))
      (refine q_val (v := Value.agg (macA (byteF a))) (by rfl) (fun w hC => run_loadVar_of 40 _ rfl (G + 1) rfl 40 (macA (byteF a)) _ (KM3.out w hC) Tryd.underlying40 rfl SZM.out) ?_; (try simp only [Act.put, List.getElem_toArray, List.getElem_cons_succ, List.getElem_cons_zero, List.setIfInBounds_toArray, List.set_cons_zero, List.set_cons_succ]))
      (refine q_val (v := ?_) (by rfl) ?_ ?_; rotate_left; (· (intro w hC; go_simp; try with_reducible rfl)); (try simp only [Act.put, List.getElem_toArray, List.getElem_cons_succ, List.getElem_cons_zero, List.setIfInBounds_toArray, List.set_cons_zero, List.set_cons_succ]))
      (refine q_call (v := .int .u32 (tow : Nat)) 38 #[.agg (t3A i), kyV vid a] (by rfl) (fun w hC => by go_simp) (fun w hC => calls_in (TW.out w (H3.out.next hC)) (fun w' hb => hC.trans (hb.mono hC.size))) ?_; (try simp only [Act.put, List.getElem_toArray, List.getElem_cons_succ, List.getElem_cons_zero, List.setIfInBounds_toArray, List.set_cons_zero, List.set_cons_succ]))
      (refine q_val (v := .int .u32 ((wm &&& opn &&& tow : Nat) : Nat)) (by rfl) (fun w hC => by rw [← A2.out]; go_simp) ?_; (try simp only [Act.put, List.getElem_toArray, List.getElem_cons_succ, List.getElem_cons_zero, List.setIfInBounds_toArray, List.set_cons_zero, List.set_cons_succ]))
      (refine q_val (v := ?_) (by rfl) ?_ ?_; rotate_left; (· (intro w hC; go_simp; try with_reducible rfl)); (try simp only [Act.put, List.getElem_toArray, List.getElem_cons_succ, List.getElem_cons_zero, List.setIfInBounds_toArray, List.set_cons_zero, List.set_cons_succ]))
      refine wpQuiet_nil ?_
      intro w5 hC5
      have B5 := Lib.hid (B3.out.trans (hC5.mono B3.out.size))
      clear hC5
      go_wp2_with fail
      go_ret
      exact ⟨by rw [← RR.out]; rfl, B5.out⟩
end
section
/- Frames: their size, and what stands in a tag. -/
open Go.RowKit

/-- How many bytes it has. -/
def lenF (tg : Bool) (da : ByteArray) : Nat := if tg then 18 + da.size else 14 + da.size

set_option maxRecDepth 100000 in
set_option maxHeartbeats 1000000 in
theorem size_any (d s : Nat → Nat) (tg : Bool) (pc : Nat) (de : Bool) (vi ty : Nat) (da : ByteArray) (w : World) (hd : da.size ≤ 1600) :
    Calls Tryd.prog 52 #[.agg (frA d s tg pc de vi ty da)] w fun e w' => e = .returned (.int .i64 (lenF tg da : Nat)) ∧ Below w.heap.size w w' := by
  obtain ⟨arr, harr⟩ : ∃ arr, arr = frA d s tg pc de vi ty da := ⟨_, rfl⟩
  have a12 : arr[12]? = some (.bool tg) := by rw [harr]; rfl
  have a13 : arr[13]? = some (.int .u8 (pc : Nat)) := by rw [harr]; rfl
  have a14 : arr[14]? = some (.bool de) := by rw [harr]; rfl
  have a15 : arr[15]? = some (.int .u16 (vi : Nat)) := by rw [harr]; rfl
  have a16 : arr[16]? = some (.int .u16 (ty : Nat)) := by rw [harr]; rfl
  have a17 : arr[17]? = some (.string da) := by rw [harr]; rfl
  rw [← harr]
  clear harr
  have h1 : (da.size : Int) ≤ 1600 := by omega
  cases tg with
  | true =>
    go_enter Tryd.func52, Tryd.ntmps52
    go_wp2
    go_ret
    exact ⟨ret_int (by simp [lenF]), (Below.refl _ _).alloc (Nat.le_refl _) _⟩
  | false =>
    go_enter Tryd.func52, Tryd.ntmps52
    go_wp2
    go_ret
    exact ⟨ret_int (by simp [lenF]), (Below.refl _ _).alloc (Nat.le_refl _) _⟩

theorem pow64' (i : Nat) (h : 64 ≤ i) : 18446744073709551616 ≤ 2 ^ i := Nat.pow_le_pow_right (n := 2) (by omega) h

/-- What stands in a tag. -/
def tagN (pc : Nat) (de : Bool) (vi : Nat) : Nat := 8192 * pc + vi + if de then 4096 else 0

theorem with_pcp (vi pc : Nat) (hv : vi ≤ 4094) (hp : pc ≤ 7) : Nums.withN vi 13 3 pc = 8192 * pc + vi := by
  have h : ∀ p : Fin 8, ∀ v : Fin 4095, Nums.withN v.val 13 3 p.val = 8192 * p.val + v.val := by
    intro p v
    have hg : Nums.good 13 3 := by unfold Nums.good; omega
    apply Nat.eq_of_testBit_eq
    intro i
    have hv := v.isLt
    have hp := p.isLt
    have hw := Nums.withN_lt v.val 13 3 p.val (by omega)
    have e : 8192 * p.val + v.val = p.val <<< 13 ||| v.val := by
      rw [Nat.shiftLeft_eq, Nat.mul_comm p.val, show (8192 : Nat) = 2 ^ 13 by decide, Nat.two_pow_add_eq_or_of_lt (by simpa using (by omega : v.val < 8192))]
    by_cases hi : i < 64
    · rw [Nums.testBit_withN v.val 13 3 p.val i hg hi, e, Nat.testBit_or, Nat.testBit_shiftLeft]
      show (if 13 ≤ i ∧ i < 13 + 3 then p.val.testBit (i - 13) else v.val.testBit i) = _
      by_cases c : 13 ≤ i
      · have hz : v.val.testBit i = false := Nat.testBit_lt_two_pow (Nat.lt_of_lt_of_le (by omega : v.val < 2 ^ 13) (Nat.pow_le_pow_right (by omega) c))
        by_cases c2 : i < 16
        · rw [if_pos ⟨c, c2⟩]; simp [c, hz]
        · rw [if_neg (by omega), hz]
          have : p.val.testBit (i - 13) = false := Nat.testBit_lt_two_pow (Nat.lt_of_lt_of_le (by omega : p.val < 2 ^ 3) (Nat.pow_le_pow_right (by omega) (by omega)))
          simp [c, this]
      · rw [if_neg (by omega)]; simp [c]
    · rw [Nat.testBit_lt_two_pow (Nat.lt_of_lt_of_le hw (pow64' i (by omega))), Nat.testBit_lt_two_pow (Nat.lt_of_lt_of_le (by omega : 8192 * p.val + v.val < 18446744073709551616) (pow64' i (by omega)))]
  exact h ⟨pc, by omega⟩ ⟨vi, by omega⟩

theorem with_dei (x : Nat) (hx : x < 65536) (hb : x / 4096 % 2 = 0) : Nums.withN x 12 1 1 = x + 4096 := by
  have hg : Nums.good 12 1 := by unfold Nums.good; omega
  have hw := Nums.withN_lt x 12 1 1 (by omega)
  have e : x + 4096 = (x / 8192) <<< 13 ||| (1 <<< 12 ||| x % 4096) := by
    have e1 : 1 <<< 12 ||| x % 4096 = 4096 + x % 4096 := by
      rw [show (1 <<< 12 : Nat) = 2 ^ 12 * 1 by decide, ← Nat.two_pow_add_eq_or_of_lt (by omega : x % 4096 < 2 ^ 12)]
    rw [e1, Nat.shiftLeft_eq, Nat.mul_comm (x / 8192), ← Nat.two_pow_add_eq_or_of_lt (by omega : 4096 + x % 4096 < 2 ^ 13)]
    omega
  have e2 : x = (x / 8192) <<< 13 ||| x % 4096 := by
    rw [Nat.shiftLeft_eq, Nat.mul_comm (x / 8192), ← Nat.two_pow_add_eq_or_of_lt (by omega : x % 4096 < 2 ^ 13)]
    omega
  apply Nat.eq_of_testBit_eq
  intro i
  by_cases hi : i < 64
  · rw [Nums.testBit_withN x 12 1 1 i hg hi]
    show (if 12 ≤ i ∧ i < 12 + 1 then (1 : Nat).testBit (i - 12) else x.testBit i) = _
    rw [e, Nat.testBit_or, Nat.testBit_or, Nat.testBit_shiftLeft, Nat.testBit_shiftLeft]
    by_cases c : i = 12
    · subst c
      simp
    · rw [if_neg (by omega)]
      conv => lhs; rw [e2]
      rw [Nat.testBit_or, Nat.testBit_shiftLeft]
      have h1 : (decide (i ≥ 12) && (1 : Nat).testBit (i - 12)) = false := by
        by_cases c2 : 12 ≤ i
        · obtain ⟨j, hj⟩ : ∃ j, i - 12 = j + 1 := ⟨i - 13, by omega⟩
          rw [hj]
          simp [Nat.testBit_succ]
        · simp [c2]
      rw [h1, Bool.false_or]
  · rw [Nat.testBit_lt_two_pow (Nat.lt_of_lt_of_le hw (pow64' i (by omega))), Nat.testBit_lt_two_pow (Nat.lt_of_lt_of_le (by omega : x + 4096 < 18446744073709551616) (pow64' i (by omega)))]

set_option maxRecDepth 100000 in
set_option maxHeartbeats 1000000 in
theorem tag_any (d s : Nat → Nat) (pc : Nat) (de : Bool) (vi ty : Nat) (da : ByteArray) (w : World) (hp : pc ≤ 7) (hv : vi ≤ 4094) :
    Calls Tryd.prog 54 #[.agg (frA d s true pc de vi ty da)] w fun e w' => e = .returned (.int .u64 (tagN pc de vi : Nat)) ∧ Below w.heap.size w w' := by
  obtain ⟨arr, harr⟩ : ∃ arr, arr = frA d s true pc de vi ty da := ⟨_, rfl⟩
  have a12 : arr[12]? = some (.bool true) := by rw [harr]; rfl
  have a13 : arr[13]? = some (.int .u8 (pc : Nat)) := by rw [harr]; rfl
  have a14 : arr[14]? = some (.bool de) := by rw [harr]; rfl
  have a15 : arr[15]? = some (.int .u16 (vi : Nat)) := by rw [harr]; rfl
  have a16 : arr[16]? = some (.int .u16 (ty : Nat)) := by rw [harr]; rfl
  have a17 : arr[17]? = some (.string da) := by rw [harr]; rfl
  rw [← harr]
  clear harr
  have h1 := Lib.hid (with_pcp vi pc hv hp)
  cases de with
  | true =>
    have h2 := Lib.hid (with_dei (8192 * pc + vi) (by omega) (by omega))
    have h3 := Lib.hid (show tagN pc true vi = 8192 * pc + vi + 4096 by simp [tagN])
    have hl : 8192 * pc + vi < 65536 := by omega
    generalize 8192 * pc + vi = x at *
    go_enter Tryd.func54, Tryd.ntmps54
    go_wp2_with (first
      | (go_at_call 64; (with_reducible refine (with_any vi 13 3 pc _ (by omega)).mono ?_); rintro e w' ⟨rfl, rfl⟩; rw [h1.out])
      | (go_at_call 64; refine (with_any x 12 1 1 _ (by omega)).mono ?_; rintro e w' ⟨rfl, rfl⟩; rw [h2.out]))
    go_ret
    exact ⟨ret_int (by rw [h3.out]; simp), (Below.refl _ _).alloc (Nat.le_refl _) _⟩
  | false =>
    have h3 := Lib.hid (show tagN pc false vi = 8192 * pc + vi by simp [tagN])
    generalize 8192 * pc + vi = x at *
    go_enter Tryd.func54, Tryd.ntmps54
    go_wp2_with (first
      | (go_at_call 64; (with_reducible refine (with_any vi 13 3 pc _ (by omega)).mono ?_); rintro e w' ⟨rfl, rfl⟩; rw [h1.out]))
    go_ret
    exact ⟨ret_int (by rw [h3.out]), (Below.refl _ _).alloc (Nat.le_refl _) _⟩
end
section
/- frame.Encode: a frame's bytes, or why it has none. -/
open Go.RowKit

/-- A frame in memory; and nothing that was there has changed. -/
structure Fq (w0 : World) (g : Nat) (d s : Nat → Nat) (tg : Bool) (pc : Nat) (de : Bool) (vi ty : Nat) (da : ByteArray) (w : World) : Prop where
  row : Blk w g (frA d s tg pc de vi ty da) 42
  below : Below g w0 w

theorem Fq.next {w0 : World} {g : Nat} {d s : Nat → Nat} {tg : Bool} {pc : Nat} {de : Bool} {vi ty : Nat} {da : ByteArray} {w : World} {w' : World} (h : Fq w0 g d s tg pc de vi ty da w) (hb : Below w.heap.size w w') : Fq w0 g d s tg pc de vi ty da w' :=
  ⟨h.row.below hb h.row.lt, h.below.trans (hb.mono (Nat.le_of_lt h.row.lt))⟩
theorem Fq.drew {w0 : World} {g : Nat} {d s : Nat → Nat} {tg : Bool} {pc : Nat} {de : Bool} {vi ty : Nat} {da : ByteArray} {w : World} (h : Fq w0 g d s tg pc de vi ty da w) : Fq w0 g d s tg pc de vi ty da w.drew := ⟨h.row.drew, h.below.drew⟩
theorem Fq.macs {w0 : World} {g : Nat} {d s : Nat → Nat} {tg : Bool} {pc : Nat} {de : Bool} {vi ty : Nat} {da : ByteArray} {w : World} (h : Fq w0 g d s tg pc de vi ty da w) : w.cell? ⟨g, 0, none⟩ = some (.int .u8 (d 0 : Nat)) ∧ w.cell? ⟨g, 1, none⟩ = some (.int .u8 (d 1 : Nat)) ∧ w.cell? ⟨g, 2, none⟩ = some (.int .u8 (d 2 : Nat)) ∧ w.cell? ⟨g, 3, none⟩ = some (.int .u8 (d 3 : Nat)) ∧ w.cell? ⟨g, 4, none⟩ = some (.int .u8 (d 4 : Nat)) ∧ w.cell? ⟨g, 5, none⟩ = some (.int .u8 (d 5 : Nat)) ∧ w.cell? ⟨g, 6, none⟩ = some (.int .u8 (s 0 : Nat)) ∧ w.cell? ⟨g, 7, none⟩ = some (.int .u8 (s 1 : Nat)) ∧ w.cell? ⟨g, 8, none⟩ = some (.int .u8 (s 2 : Nat)) ∧ w.cell? ⟨g, 9, none⟩ = some (.int .u8 (s 3 : Nat)) ∧ w.cell? ⟨g, 10, none⟩ = some (.int .u8 (s 4 : Nat)) ∧ w.cell? ⟨g, 11, none⟩ = some (.int .u8 (s 5 : Nat)) ∧ Fq w0 g d s tg pc de vi ty da w :=
  ⟨h.row.cell 0, h.row.cell 1, h.row.cell 2, h.row.cell 3, h.row.cell 4, h.row.cell 5, h.row.cell 6, h.row.cell 7, h.row.cell 8, h.row.cell 9, h.row.cell 10, h.row.cell 11, h⟩
theorem Fq.whole {w0 : World} {g : Nat} {d s : Nat → Nat} {tg : Bool} {pc : Nat} {de : Bool} {vi ty : Nat} {da : ByteArray} {w : World} (h : Fq w0 g d s tg pc de vi ty da w) : w.cell? ⟨g, 0, none⟩ = some (.int .u8 (d 0 : Nat)) ∧ w.cell? ⟨g, 1, none⟩ = some (.int .u8 (d 1 : Nat)) ∧ w.cell? ⟨g, 2, none⟩ = some (.int .u8 (d 2 : Nat)) ∧ w.cell? ⟨g, 3, none⟩ = some (.int .u8 (d 3 : Nat)) ∧ w.cell? ⟨g, 4, none⟩ = some (.int .u8 (d 4 : Nat)) ∧ w.cell? ⟨g, 5, none⟩ = some (.int .u8 (d 5 : Nat)) ∧ w.cell? ⟨g, 6, none⟩ = some (.int .u8 (s 0 : Nat)) ∧ w.cell? ⟨g, 7, none⟩ = some (.int .u8 (s 1 : Nat)) ∧ w.cell? ⟨g, 8, none⟩ = some (.int .u8 (s 2 : Nat)) ∧ w.cell? ⟨g, 9, none⟩ = some (.int .u8 (s 3 : Nat)) ∧ w.cell? ⟨g, 10, none⟩ = some (.int .u8 (s 4 : Nat)) ∧ w.cell? ⟨g, 11, none⟩ = some (.int .u8 (s 5 : Nat)) ∧ w.cell? ⟨g, 12, none⟩ = some (.bool tg) ∧ w.cell? ⟨g, 13, none⟩ = some (.int .u8 (pc : Nat)) ∧ w.cell? ⟨g, 14, none⟩ = some (.bool de) ∧ w.cell? ⟨g, 15, none⟩ = some (.int .u16 (vi : Nat)) ∧ w.cell? ⟨g, 16, none⟩ = some (.int .u16 (ty : Nat)) ∧ w.cell? ⟨g, 17, none⟩ = some (.string da) ∧ Fq w0 g d s tg pc de vi ty da w :=
  ⟨h.row.cell 0, h.row.cell 1, h.row.cell 2, h.row.cell 3, h.row.cell 4, h.row.cell 5, h.row.cell 6, h.row.cell 7, h.row.cell 8, h.row.cell 9, h.row.cell 10, h.row.cell 11, h.row.cell 12, h.row.cell 13, h.row.cell 14, h.row.cell 15, h.row.cell 16, h.row.cell 17, h⟩
theorem Fq.tail {w0 : World} {g : Nat} {d s : Nat → Nat} {tg : Bool} {pc : Nat} {de : Bool} {vi ty : Nat} {da : ByteArray} {w : World} (h : Fq w0 g d s tg pc de vi ty da w) : w.cell? ⟨g, 16, none⟩ = some (.int .u16 (ty : Nat)) ∧ w.cell? ⟨g, 17, none⟩ = some (.string da) ∧ Fq w0 g d s tg pc de vi ty da w :=
  ⟨h.row.cell 16, h.row.cell 17, h⟩

/-- Six bytes as a text. -/
def six6 (d : Nat → Nat) : List UInt8 := [UInt8.ofNat (d 0), UInt8.ofNat (d 1), UInt8.ofNat (d 2), UInt8.ofNat (d 3), UInt8.ofNat (d 4), UInt8.ofNat (d 5)]

theorem bytes_six (d : Nat → Nat) (hd : Six d) : Nums.bytesN (numF d 6) 6 = six6 d := by
  have h := byteF_numF hd
  simp only [mac, Value.agg.injEq, Array.mk.injEq, List.cons.injEq, Value.int.injEq, Int.natCast_inj, true_and, and_true] at h
  obtain ⟨h0, h1, h2, h3, h4, h5⟩ := h
  unfold six6
  rw [← h0, ← h1, ← h2, ← h3, ← h4, ← h5]
  rfl

/-- A frame's bytes. -/
def encL (d s : Nat → Nat) (tg : Bool) (pc : Nat) (de : Bool) (vi ty : Nat) (da : ByteArray) : List UInt8 :=
  (six6 d ++ six6 s) ++ (if tg then ([129, 0] ++ Nums.bytesN (tagN pc de vi) 2) else []) ++ Nums.bytesN ty 2 ++ da.data.toList

/-- The error's number. -/
def encE (tg : Bool) (pc : Nat) (de : Bool) (vi ty : Nat) (da : ByteArray) : Int := if okF tg pc de vi ty = true then (if 1518 < lenF tg da then 3 else 0) else 16
/-- The bytes, if there is no error. -/
def encS (d s : Nat → Nat) (tg : Bool) (pc : Nat) (de : Bool) (vi ty : Nat) (da : ByteArray) : ByteArray := if encE tg pc de vi ty da = 0 then ⟨(encL d s tg pc de vi ty da).toArray⟩ else ⟨#[]⟩

theorem ret_str {a a' : ByteArray} {b b' : Int} (h : a = a') (g : b = b') : Ending.returned (.tuple #[.string a, .int .i64 b]) = .returned (.tuple #[.string a', .int .i64 b']) := by rw [h, g]

theorem mayBe_of {d s : Nat → Nat} {tg : Bool} {pc : Nat} {de : Bool} {vi ty : Nat} {da : ByteArray} {arr : Array Value} (h : arr = frA d s tg pc de vi ty da) (w : World) :
    Calls Tryd.prog 51 #[.agg arr] w fun e w' => e = .returned (.bool (okF tg pc de vi ty)) ∧ Below w.heap.size w w' := by subst h; exact mayBe_any d s tg pc de vi ty da w
theorem size_of {d s : Nat → Nat} {tg : Bool} {pc : Nat} {de : Bool} {vi ty : Nat} {da : ByteArray} {arr : Array Value} (h : arr = frA d s tg pc de vi ty da) (w : World) (hd : da.size ≤ 1600) :
    Calls Tryd.prog 52 #[.agg arr] w fun e w' => e = .returned (.int .i64 (lenF tg da : Nat)) ∧ Below w.heap.size w w' := by subst h; exact size_any d s tg pc de vi ty da w hd

set_option maxRecDepth 100000 in
set_option maxHeartbeats 4000000 in
theorem encode_no (d s : Nat → Nat) (tg : Bool) (pc : Nat) (de : Bool) (vi ty : Nat) (da : ByteArray) (w : World) (hz : da.size ≤ 1600) (hno : okF tg pc de vi ty = false ∨ 1518 < lenF tg da) :
    Calls Tryd.prog 39 #[.agg (frA d s tg pc de vi ty da)] w fun e w' => e = .returned (.tuple #[.string (encS d s tg pc de vi ty da), .int .i64 (encE tg pc de vi ty da)]) ∧ Below w.heap.size w w' := by
  obtain ⟨arr, harr⟩ : ∃ arr, arr = frA d s tg pc de vi ty da := ⟨_, rfl⟩
  have hi := Lib.hid size52
  have HA := Lib.hid harr
  have R := Lib.hid (Blk.new w arr 42)
  have hb := (Below.refl w.heap.size w).alloc (Nat.le_refl _) (Obj.cells arr 42)
  have hsz : (Tryd.prog.info? 42).map (·.size) = some arr.size := by rw [harr]; exact size52
  have HSZ := Lib.hid hsz
  rw [← harr]
  clear harr hsz
  cases hok : okF tg pc de vi ty with
  | false =>
    have E1 := Lib.hid (show encE tg pc de vi ty da = 16 by unfold encE; rw [if_neg (by rw [hok]; simp)])
    have E2 := Lib.hid (show encS d s tg pc de vi ty da = ⟨#[]⟩ by unfold encS; rw [if_neg (by rw [E1.out]; omega)])
    have HOK := Lib.hid hok
    clear hok hno
    go_enter Tryd.func39, Tryd.ntmps39
    go_wp2_with (first
      | (refine wpList_load_row rfl 42 _ rfl w.heap.size rfl 42 _ (0, 0) _ R.out Tryd.underlying42 rfl HSZ.out ?_)
      | (go_at_call 51; refine (mayBe_of HA.out _).mono ?_; rintro e w1 ⟨rfl, hb1⟩; rw [HOK.out]))
    go_ret2
    exact ⟨ret_str E2.out.symm E1.out.symm, hb.trans (hb1.mono hb.size)⟩
  | true =>
    have hlen : 1518 < lenF tg da := by rcases hno with h | h; (rw [hok] at h; cases h); exact h
    have E1 := Lib.hid (show encE tg pc de vi ty da = 3 by unfold encE; rw [if_pos hok, if_pos hlen])
    have E2 := Lib.hid (show encS d s tg pc de vi ty da = ⟨#[]⟩ by unfold encS; rw [if_neg (by rw [E1.out]; omega)])
    have HOK := Lib.hid hok
    obtain ⟨n, hn⟩ : ∃ n, n = lenF tg da := ⟨_, rfl⟩
    have HN := Lib.hid hn
    have hnl : (1518 : Int) < (n : Int) := by omega
    clear hok hno hlen hn
    go_enter Tryd.func39, Tryd.ntmps39
    go_wp2_with (first
      | (refine wpList_load_row rfl 42 _ rfl w.heap.size rfl 42 _ (0, 0) _ R.out Tryd.underlying42 rfl HSZ.out ?_)
      | (go_at_call 51; refine (mayBe_of HA.out _).mono ?_; rintro e w1 ⟨rfl, hb1⟩; rw [HOK.out]
         have R := Lib.hid (R.out.below hb1 (by simp)))
      | (go_at_call 52; refine (size_of HA.out _ hz).mono ?_; rintro e w2 ⟨rfl, hb2⟩; rw [← HN.out]))
    go_ret2
    exact ⟨ret_str E2.out.symm E1.out.symm, (hb.trans (hb1.mono hb.size)).trans (hb2.mono (Nat.le_trans hb.size hb1.size))⟩
end
section
/- frame.Encode of a frame that has bytes. -/
open Go.RowKit

theorem bytes6_of (x : Nat) (w : World) : Calls Tryd.prog 43 #[.int .u64 x, .int .i64 6] w fun e w' => e = .returned (.string ⟨(Nums.bytesN x 6).toArray⟩) ∧ Below w.heap.size w w' := bytes_yes x 6 w (by omega) (by omega)
theorem bytes2_of (x : Nat) (w : World) : Calls Tryd.prog 43 #[.int .u64 x, .int .i64 2] w fun e w' => e = .returned (.string ⟨(Nums.bytesN x 2).toArray⟩) ∧ Below w.heap.size w w' := bytes_yes x 2 w (by omega) (by omega)
theorem bytesM_of (w : World) : Calls Tryd.prog 43 #[.int .u64 33024, .int .i64 2] w fun e w' => e = .returned (.string ⟨#[129, 0]⟩) ∧ Below w.heap.size w w' := by
  have := bytes_yes 33024 2 w (by omega) (by omega)
  rwa [show Nums.bytesN 33024 2 = [129, 0] by decide] at this

theorem hadd (a b : ByteArray) (h : a.size + b.size ≤ 9223372036854775807) : ∀ W, (Op.stringOp .add a b).run Tryd.prog W = .ok (.string (a ++ b)) W := fun _ => run_string_add_sum _ _ _ h

theorem tag_of {d s : Nat → Nat} {pc : Nat} {de : Bool} {vi ty : Nat} {da : ByteArray} (w : World) (hp : pc ≤ 7) (hv : vi ≤ 4094) :
    Calls Tryd.prog 54 #[.agg (frA d s true pc de vi ty da)] w fun e w' => e = .returned (.int .u64 (tagN pc de vi : Nat)) ∧ Below w.heap.size w w' := tag_any d s pc de vi ty da w hp hv

theorem sz2 (x : Nat) : (⟨(Nums.bytesN x 2).toArray⟩ : ByteArray).size = 2 := by show (Nums.bytesN x 2).toArray.size = 2; simp [Nums.bytesN_length]

theorem app_list (a b : ByteArray) : (a ++ b).data.toList = a.data.toList ++ b.data.toList := by simp

theorem enc_true {d s : Nat → Nat} {pc : Nat} {de : Bool} {vi ty : Nat} {da bd bs bm bt bY : ByteArray} (h1 : bd = ⟨(six6 d).toArray⟩) (h2 : bs = ⟨(six6 s).toArray⟩) (h3 : bm = ⟨#[129, 0]⟩) (h4 : bt = ⟨(Nums.bytesN (tagN pc de vi) 2).toArray⟩) (h5 : bY = ⟨(Nums.bytesN ty 2).toArray⟩) :
    (bd ++ bs) ++ (bm ++ bt) ++ bY ++ da = (⟨(encL d s true pc de vi ty da).toArray⟩ : ByteArray) := by
  apply ByteArray.ext
  apply Array.ext'
  rw [app_list, app_list, app_list, app_list, app_list, h1, h2, h3, h4, h5]
  simp [encL]

theorem enc_false {d s : Nat → Nat} {pc : Nat} {de : Bool} {vi ty : Nat} {da bd bs bY : ByteArray} (h1 : bd = ⟨(six6 d).toArray⟩) (h2 : bs = ⟨(six6 s).toArray⟩) (h5 : bY = ⟨(Nums.bytesN ty 2).toArray⟩) :
    (bd ++ bs) ++ bY ++ da = (⟨(encL d s false pc de vi ty da).toArray⟩ : ByteArray) := by
  apply ByteArray.ext
  apply Array.ext'
  rw [app_list, app_list, app_list, h1, h2, h5]
  simp [encL]

set_option maxRecDepth 100000 in
set_option maxHeartbeats 8000000 in
theorem encode_ok (d s : Nat → Nat) (tg : Bool) (pc : Nat) (de : Bool) (vi ty : Nat) (da : ByteArray) (w : World) (hd : Six d) (hs : Six s) (ht : ty < 65536) (hz : da.size ≤ 1600) (hok : okF tg pc de vi ty = true) (hlen : ¬ 1518 < lenF tg da) :
    Calls Tryd.prog 39 #[.agg (frA d s tg pc de vi ty da)] w fun e w' => e = .returned (.tuple #[.string (encS d s tg pc de vi ty da), .int .i64 (encE tg pc de vi ty da)]) ∧ Below w.heap.size w w' := by
  obtain ⟨arr, harr⟩ : ∃ arr, arr = frA d s tg pc de vi ty da := ⟨_, rfl⟩
  have HA := Lib.hid harr
  have R := Lib.hid (Blk.new w arr 42)
  have hb := (Below.refl w.heap.size w).alloc (Nat.le_refl _) (Obj.cells arr 42)
  have hsz : (Tryd.prog.info? 42).map (·.size) = some arr.size := by rw [harr]; exact size52
  have HSZ := Lib.hid hsz
  rw [← harr]
  clear harr hsz
  have HWT := Lib.hid (show IntKind.u64.wrap (ty : Int) = (ty : Int) by rw [IntKind.wrap_u64]; omega)
  have E1 := Lib.hid (show encE tg pc de vi ty da = 0 by unfold encE; rw [if_pos hok, if_neg hlen])
  have E2 := Lib.hid (show encS d s tg pc de vi ty da = ⟨(encL d s tg pc de vi ty da).toArray⟩ by unfold encS; rw [if_pos E1.out])
  have HOK := Lib.hid hok
  obtain ⟨n, hn⟩ : ∃ n, n = lenF tg da := ⟨_, rfl⟩
  have HN := Lib.hid hn
  have hnl : ¬ (1518 : Int) < (n : Int) := by omega
  obtain ⟨x, hx⟩ : ∃ x, x = numF d 6 := ⟨_, rfl⟩
  obtain ⟨y, hy⟩ : ∃ y, y = numF s 6 := ⟨_, rfl⟩
  obtain ⟨bd, hbd⟩ : ∃ bd : ByteArray, bd = ⟨(six6 d).toArray⟩ := ⟨_, rfl⟩
  obtain ⟨bs, hbs⟩ : ∃ bs : ByteArray, bs = ⟨(six6 s).toArray⟩ := ⟨_, rfl⟩
  have zd : bd.size = 6 := by rw [hbd]; rfl
  have zs : bs.size = 6 := by rw [hbs]; rfl
  have X := Lib.hid hx.symm
  have Y := Lib.hid hy.symm
  have BX := Lib.hid (show (⟨(Nums.bytesN x 6).toArray⟩ : ByteArray) = bd by rw [hx, bytes_six d hd, hbd])
  have BY := Lib.hid (show (⟨(Nums.bytesN y 6).toArray⟩ : ByteArray) = bs by rw [hy, bytes_six s hs, hbs])
  have BD := Lib.hid hbd
  have BS := Lib.hid hbs
  have add1 := hadd bd bs (by omega)
  have ZD := Lib.hid zd
  have ZS := Lib.hid zs
  have H6 := Lib.hid hd
  have K6 := Lib.hid hs
  clear hok hlen hn hx hy hbd hbs zd zs hd hs
  go_enter Tryd.func39, Tryd.ntmps39
  go_upto_region 5 with (first
    | (refine wpList_load_row rfl 42 _ rfl w.heap.size rfl 42 _ (0, 0) _ R.out Tryd.underlying42 rfl HSZ.out ?_)
    | (go_at_call 51; refine (mayBe_of HA.out _).mono ?_; rintro e w1 ⟨rfl, hb1⟩; rw [HOK.out]
       have R := Lib.hid (R.out.below hb1 (by simp)))
    | (go_at_call 52; refine (size_of HA.out _ hz).mono ?_; rintro e w2 ⟨rfl, hb2⟩; rw [← HN.out]))
  have fq : Fq w w.heap.size d s tg pc de vi ty da w2 := ⟨by rw [← HA.out]; exact R.out.below hb2 R.out.lt, (hb.trans (hb1.mono hb.size)).trans (hb2.mono (Nat.le_trans hb.size hb1.size))⟩
  clear hb hb1 hb2 R
  generalize hge : w.heap.size = g at *
  have HG := Lib.hid hge
  clear hge
  go_cut [4] (fun s4 wx => s4 = .string (bd ++ bs) ∧ Fq w g d s tg pc de vi ty da wx)
  case first =>
    have hq := fq.drew.macs
    go_region_held3 (fun w' => w'.cell? ⟨g, 0, none⟩ = some (.int .u8 (d 0 : Nat)) ∧ w'.cell? ⟨g, 1, none⟩ = some (.int .u8 (d 1 : Nat)) ∧ w'.cell? ⟨g, 2, none⟩ = some (.int .u8 (d 2 : Nat)) ∧ w'.cell? ⟨g, 3, none⟩ = some (.int .u8 (d 3 : Nat)) ∧ w'.cell? ⟨g, 4, none⟩ = some (.int .u8 (d 4 : Nat)) ∧ w'.cell? ⟨g, 5, none⟩ = some (.int .u8 (d 5 : Nat)) ∧ w'.cell? ⟨g, 6, none⟩ = some (.int .u8 (s 0 : Nat)) ∧ w'.cell? ⟨g, 7, none⟩ = some (.int .u8 (s 1 : Nat)) ∧ w'.cell? ⟨g, 8, none⟩ = some (.int .u8 (s 2 : Nat)) ∧ w'.cell? ⟨g, 9, none⟩ = some (.int .u8 (s 3 : Nat)) ∧ w'.cell? ⟨g, 10, none⟩ = some (.int .u8 (s 4 : Nat)) ∧ w'.cell? ⟨g, 11, none⟩ = some (.int .u8 (s 5 : Nat)) ∧ Fq w g d s tg pc de vi ty da w')
      (first | (exact hq) | (go_split_ands; exact (Fq.next (by assumption) hbx).macs))
      (first
        | (go_at_call 53; (with_reducible refine (int_any d _ H6.out).mono ?_); rintro e wx ⟨rfl, hbx⟩; rw [X.out])
        | (go_at_call 53; (with_reducible refine (int_any s _ K6.out).mono ?_); rintro e wx ⟨rfl, hbx⟩; rw [Y.out])
        | (go_at_call 43; (with_reducible refine (bytes6_of x _).mono ?_); rintro e wx ⟨rfl, hbx⟩; rw [BX.out])
        | (go_at_call 43; (with_reducible refine (bytes6_of y _).mono ?_); rintro e wx ⟨rfl, hbx⟩; rw [BY.out]))
    all_goals
      go_split_ands
      go_wp2_with fail
      go_meet
      exact ⟨rfl, by assumption⟩
  case rest =>
    obtain ⟨rfl, fq2⟩ := hcut
    clear fq
    cases tg with
    | true =>
      have hpv : pc ≤ 7 ∧ vi ≤ 4094 := by have h := HOK.out; unfold okF at h; simpa using h
      obtain ⟨hp7, hv4⟩ := hpv
      obtain ⟨t, hte⟩ : ∃ t, t = tagN pc de vi := ⟨_, rfl⟩
      obtain ⟨bt, hbt⟩ : ∃ bt : ByteArray, bt = ⟨(Nums.bytesN t 2).toArray⟩ := ⟨_, rfl⟩
      obtain ⟨bm, hbm⟩ : ∃ bm : ByteArray, bm = ⟨#[129, 0]⟩ := ⟨_, rfl⟩
      have zt : bt.size = 2 := by rw [hbt]; exact sz2 t
      have zm : bm.size = 2 := by rw [hbm]; rfl
      have BT := Lib.hid hbt
      have BM := Lib.hid hbm
      have HT := Lib.hid hte.symm
      have add2 := hadd bm bt (by omega)
      have add3 := hadd (bd ++ bs) (bm ++ bt) (by have := ZD.out; have := ZS.out; simp only [ByteArray.size_append]; omega)
      have ZT := Lib.hid zt
      have ZM := Lib.hid zm
      have hq := fq2.drew.whole
      have c12 : wc.cell? ⟨g, 12, none⟩ = some (.bool true) := fq2.row.cell 12
      clear hte hbt hbm zt zm
      go_upto_region 7 with fail
      go_cut [4] (fun s4 wx => s4 = .string ((bd ++ bs) ++ (bm ++ bt)) ∧ Fq w g d s true pc de vi ty da wx)
      case first =>
        go_region_held3 (fun w' => w'.cell? ⟨g, 0, none⟩ = some (.int .u8 (d 0 : Nat)) ∧ w'.cell? ⟨g, 1, none⟩ = some (.int .u8 (d 1 : Nat)) ∧ w'.cell? ⟨g, 2, none⟩ = some (.int .u8 (d 2 : Nat)) ∧ w'.cell? ⟨g, 3, none⟩ = some (.int .u8 (d 3 : Nat)) ∧ w'.cell? ⟨g, 4, none⟩ = some (.int .u8 (d 4 : Nat)) ∧ w'.cell? ⟨g, 5, none⟩ = some (.int .u8 (d 5 : Nat)) ∧ w'.cell? ⟨g, 6, none⟩ = some (.int .u8 (s 0 : Nat)) ∧ w'.cell? ⟨g, 7, none⟩ = some (.int .u8 (s 1 : Nat)) ∧ w'.cell? ⟨g, 8, none⟩ = some (.int .u8 (s 2 : Nat)) ∧ w'.cell? ⟨g, 9, none⟩ = some (.int .u8 (s 3 : Nat)) ∧ w'.cell? ⟨g, 10, none⟩ = some (.int .u8 (s 4 : Nat)) ∧ w'.cell? ⟨g, 11, none⟩ = some (.int .u8 (s 5 : Nat)) ∧ w'.cell? ⟨g, 12, none⟩ = some (.bool true) ∧ w'.cell? ⟨g, 13, none⟩ = some (.int .u8 (pc : Nat)) ∧ w'.cell? ⟨g, 14, none⟩ = some (.bool de) ∧ w'.cell? ⟨g, 15, none⟩ = some (.int .u16 (vi : Nat)) ∧ w'.cell? ⟨g, 16, none⟩ = some (.int .u16 (ty : Nat)) ∧ w'.cell? ⟨g, 17, none⟩ = some (.string da) ∧ Fq w g d s true pc de vi ty da w')
          (first | (exact hq) | (go_split_ands; exact (Fq.next (by assumption) hbx).whole))
          (first
            | (go_at_call 54; refine (tag_of _ hp7 hv4).mono ?_; rintro e wx ⟨rfl, hbx⟩; rw [HT.out])
            | (go_at_call 43; (with_reducible refine (bytesM_of _).mono ?_); rintro e wx ⟨rfl, hbx⟩; rw [← BM.out])
            | (go_at_call 43; (with_reducible refine (bytes2_of t _).mono ?_); rintro e wx ⟨rfl, hbx⟩; rw [← BT.out]))
        all_goals
          go_split_ands
          go_wp2_with fail
          go_meet
          exact ⟨rfl, by assumption⟩
      case rest =>
        obtain ⟨rfl, fq3⟩ := hcut
        clear fq2 hq add1 add2 add3
        obtain ⟨bY, hby⟩ : ∃ bY : ByteArray, bY = ⟨(Nums.bytesN ty 2).toArray⟩ := ⟨_, rfl⟩
        have BYY := Lib.hid hby
        have zy : bY.size = 2 := by rw [hby]; exact sz2 ty
        have z1 : (bd ++ bs ++ (bm ++ bt)).size ≤ 40 := by simp only [ByteArray.size_append]; have := ZD.out; have := ZS.out; have := ZT.out; have := ZM.out; omega
        generalize hfr : bd ++ bs ++ (bm ++ bt) = fr at *
        have FR := Lib.hid hfr.symm
        have add4 := hadd fr bY (by omega)
        have add5 := hadd (fr ++ bY) da (by rw [ByteArray.size_append]; omega)
        have ZR := Lib.hid E1.out
        clear hby zy z1 hfr
        have hq := fq3.drew.tail
        have hty : (ty : Int) < 65536 := by omega
        clear fq3
        go_wp2_with fail
        go_region_held3 (fun w' => w'.cell? ⟨g, 16, none⟩ = some (.int .u16 (ty : Nat)) ∧ w'.cell? ⟨g, 17, none⟩ = some (.string da) ∧ Fq w g d s true pc de vi ty da w')
          (first | (exact hq) | (go_split_ands; exact (Fq.next (by assumption) hbx).tail))
          (first
            | (go_at_call 43; (try rw [HWT.out]); (with_reducible refine (bytes2_of ty _).mono ?_); rintro e wx ⟨rfl, hbx⟩; rw [← BYY.out]))
        all_goals
          go_split_ands
          go_wp2_with fail
          go_ret2
          exact ⟨ret_str (by rw [E2.out, FR.out]; exact enc_true BD.out BS.out BM.out (by rw [BT.out, HT.out]) BYY.out) E1.out.symm, by rw [HG.out]; exact (show Fq w g d s true pc de vi ty da wx by assumption).below⟩
    | false =>
      have fq3 := fq2
      have c12 : wc.cell? ⟨g, 12, none⟩ = some (.bool false) := fq2.row.cell 12
      clear fq2 add1
      obtain ⟨bY, hby⟩ : ∃ bY : ByteArray, bY = ⟨(Nums.bytesN ty 2).toArray⟩ := ⟨_, rfl⟩
      have BYY := Lib.hid hby
      have zy : bY.size = 2 := by rw [hby]; exact sz2 ty
      have z1 : (bd ++ bs).size ≤ 40 := by simp only [ByteArray.size_append]; have := ZD.out; have := ZS.out; omega
      generalize hfr : bd ++ bs = fr at *
      have FR := Lib.hid hfr.symm
      have add4 := hadd fr bY (by omega)
      have add5 := hadd (fr ++ bY) da (by rw [ByteArray.size_append]; omega)
      have ZR := Lib.hid E1.out
      clear hby zy z1 hfr
      have hq := fq3.drew.tail
      have hty : (ty : Int) < 65536 := by omega
      clear fq3
      go_wp2_with fail
      go_region_held3 (fun w' => w'.cell? ⟨g, 16, none⟩ = some (.int .u16 (ty : Nat)) ∧ w'.cell? ⟨g, 17, none⟩ = some (.string da) ∧ Fq w g d s false pc de vi ty da w')
        (first | (exact hq) | (go_split_ands; exact (Fq.next (by assumption) hbx).tail))
        (first
          | (go_at_call 43; (try rw [HWT.out]); (with_reducible refine (bytes2_of ty _).mono ?_); rintro e wx ⟨rfl, hbx⟩; rw [← BYY.out]))
      all_goals
        go_split_ands
        go_wp2_with fail
        go_ret2
        exact ⟨ret_str (by rw [E2.out, FR.out]; exact enc_false BD.out BS.out BYY.out) E1.out.symm, by rw [HG.out]; exact (show Fq w g d s false pc de vi ty da wx by assumption).below⟩

theorem encode_any (d s : Nat → Nat) (tg : Bool) (pc : Nat) (de : Bool) (vi ty : Nat) (da : ByteArray) (w : World) (hd : Six d) (hs : Six s) (ht : ty < 65536) (hz : da.size ≤ 1600) :
    Calls Tryd.prog 39 #[.agg (frA d s tg pc de vi ty da)] w fun e w' => e = .returned (.tuple #[.string (encS d s tg pc de vi ty da), .int .i64 (encE tg pc de vi ty da)]) ∧ Below w.heap.size w w' := by
  by_cases h : okF tg pc de vi ty = true ∧ ¬ 1518 < lenF tg da
  · exact encode_ok d s tg pc de vi ty da w hd hs ht hz h.1 h.2
  · refine encode_no d s tg pc de vi ty da w hz ?_
    cases ho : okF tg pc de vi ty with
    | false => exact .inl rfl
    | true =>
      right
      rw [ho] at h
      simp at h
      exact h
end
end Go.Proofs.YtelohoomlgjjmaaDoor
