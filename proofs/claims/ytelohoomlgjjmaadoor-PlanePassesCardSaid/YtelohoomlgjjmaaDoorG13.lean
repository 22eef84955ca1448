import Derived.Test.YtelohoomlgjjmaaDoorG12
import Derived.Test.YtelohoomlgjjmaaDoorG11
set_option linter.unusedSimpArgs false
set_option linter.unusedVariables false
namespace Go.Proofs.YtelohoomlgjjmaaDoor
section
/- egress.Form: a frame as a port of a VLAN sends it. -/
open Go.RowKit
attribute [local irreducible] wpQuiet
theorem zero46' (W : World) : (zeroValue 42).run Tryd.prog W = .ok (.agg nil18) W := by kernel_rfl
theorem nil18_one' : nil18.all (·.oneCell') = true := by simp [Value.oneCell']
theorem built_nil : Tryd.prog.built 42 [] = some nil18 := by kernel_rfl
/-- What Form answers of a frame: it with another tag, or none. -/
def formR (d s : Nat → Nat) (tg : Bool) (pc : Nat) (de : Bool) (vi ty : Nat) (da : ByteArray) : Array Value := if encE tg pc de vi ty da = 0 then frA d s tg pc de vi ty da else nil18
def formO (tg : Bool) (pc : Nat) (de : Bool) (vi ty : Nat) (da : ByteArray) : Bool := decide (encE tg pc de vi ty da = 0)

set_option maxRecDepth 100000 in
set_option maxHeartbeats 8000000 in
theorem form_true (d s : Nat → Nat) (tg : Bool) (pc : Nat) (de : Bool) (vi ty : Nat) (da : ByteArray) (vid mem unt : Nat) (port : Int) (w : World) (hd : Six d) (hs : Six s) (ht : ty < 65536) (hz : da.size ≤ 1600) (hu : unt < 4294967296) (hh : hasB unt port = true) :
    Calls Tryd.prog 18 #[.agg (frA d s tg pc de vi ty da), .agg #[.int .u16 (vid : Nat), .int .u32 (mem : Nat), .int .u32 (unt : Nat)], .int .i64 port] w fun e w' => e = .returned (.tuple #[.agg (formR d s false 0 false 0 ty da), .bool (formO false 0 false 0 ty da)]) ∧ Below w.heap.size w w' := by
  obtain ⟨arr, harr⟩ : ∃ arr, arr = frA d s tg pc de vi ty da := ⟨_, rfl⟩
  rw [← harr]
  have HA := Lib.hid harr
  have ONE := Lib.hid (show arr.all (·.oneCell') = true by rw [harr]; exact frA_one _ _ _ _ _ _ _ _)
  clear harr
  have SZ := Lib.hid size52
  have HH := Lib.hid (show ∀ W : World, Calls Tryd.prog 19 #[.int .u32 (unt : Nat), .int .i64 port] W fun e w' => e = .returned (.bool true) ∧ W = w' from fun W => by rw [← hh]; exact has_any unt port W hu)
  obtain ⟨arr2, harr2⟩ : ∃ arr2, arr2 = frA d s false 0 false 0 ty da := ⟨_, rfl⟩
  have HA2 := Lib.hid harr2
  have SZ2 := Lib.hid (show (Tryd.prog.info? 42).map (·.size) = some arr2.size by rw [harr2]; exact size52)
  have ONE2 := Lib.hid (show arr2.all (·.oneCell') = true by rw [harr2]; exact frA_one _ _ _ _ _ _ _ _)
  obtain ⟨E, hE⟩ : ∃ E, E = encE false 0 false 0 ty da := ⟨_, rfl⟩
  obtain ⟨S, hS⟩ : ∃ S, S = encS d s false 0 false 0 ty da := ⟨_, rfl⟩
  have HEN := Lib.hid (show ∀ W : World, Calls Tryd.prog 39 #[.agg arr2] W fun e w' => e = .returned (.tuple #[.string S, .int .i64 E]) ∧ Below W.heap.size W w' from fun W => by rw [harr2, hE, hS]; exact encode_any d s false 0 false 0 ty da W hd hs ht hz)
  have HR := Lib.hid (show formR d s false 0 false 0 ty da = if E = 0 then arr2 else nil18 by rw [harr2, hE]; rfl)
  have HO := Lib.hid (show formO false 0 false 0 ty da = decide (E = 0) by rw [hE]; rfl)
  obtain ⟨R, hR⟩ : ∃ R, R = formR d s false 0 false 0 ty da := ⟨_, rfl⟩
  obtain ⟨O, hO⟩ : ∃ O, O = formO false 0 false 0 ty da := ⟨_, rfl⟩
  rw [← hR] at HR
  rw [← hO] at HO
  rw [← hR, ← hO]
  clear hR hO harr2 hE hS hd hs ht hz hu hh
  obtain ⟨G, hG⟩ : ∃ G, G = w.heap.size := ⟨_, rfl⟩
  obtain ⟨w1, hw1⟩ : ∃ w1, w1 = ((w.alloc (.cells arr 42)).alloc (.cells #[.int .u16 (vid : Nat), .int .u32 (mem : Nat), .int .u32 (unt : Nat)] 73)).alloc (.cells nil18 42) := ⟨_, rfl⟩
  have HB1 := Lib.hid (show Below w.heap.size w w1 by rw [hw1]; exact (((Below.refl w.heap.size w).alloc (Nat.le_refl _) _).alloc (by simp) _).alloc (by simp; omega) _)
  have KF := Lib.hid (show Blk w1 G arr 42 by rw [hw1, hG]; exact ((Blk.new _ _ _).alloc _).alloc _)
  have KV := Lib.hid (show Blk w1 (G + 1) #[.int .u16 (vid : Nat), .int .u32 (mem : Nat), .int .u32 (unt : Nat)] 73 by
    have := (Blk.new (w.alloc (.cells arr 42)) #[.int .u16 (vid : Nat), .int .u32 (mem : Nat), .int .u32 (unt : Nat)] 73).alloc (.cells nil18 42)
    rw [hw1, hG]
    simpa using this)
  have KZ := Lib.hid (show Blk w1 (G + 1 + 1) nil18 42 by
    have := Blk.new ((w.alloc (.cells arr 42)).alloc (.cells #[.int .u16 (vid : Nat), .int .u32 (mem : Nat), .int .u32 (unt : Nat)] 73)) nil18 42
    rw [hw1, hG]
    simpa using this)
  have HW := Lib.hid hw1
  have HG := Lib.hid hG
  clear hw1 hG
  go_enter Tryd.func18, Tryd.ntmps18
  go_upto_region 1 with (first
    | (refine wpList_alloc 42 rfl (by rfl) nil18 zero46' ?_))
  rw [← HW.out, ← HG.out]
  have v0 : w1.cell? ⟨G + 1, 0, none⟩ = some (.int .u16 (vid : Nat)) := KV.out.cell 0
  have v2 : w1.cell? ⟨G + 1, 2, none⟩ = some (.int .u32 (unt : Nat)) := KV.out.cell 2
  have d12 : w1.cell? ⟨G, 12, none⟩ = some (.bool tg) := by rw [KF.out.cell, HA.out]; rfl
  have d13 : w1.cell? ⟨G, 13, none⟩ = some (.int .u8 (pc : Nat)) := by rw [KF.out.cell, HA.out]; rfl
  have d14 : w1.cell? ⟨G, 14, none⟩ = some (.bool de) := by rw [KF.out.cell, HA.out]; rfl
  have d15 : w1.cell? ⟨G, 15, none⟩ = some (.int .u16 (vi : Nat)) := by rw [KF.out.cell, HA.out]; rfl
  have f12 := KF.out.free 12
  have f13 := KF.out.free 13
  have f14 := KF.out.free 14
  have f15 := KF.out.free 15
  go_upto_region 4 with (go_at_call 19; refine (HH.out _).mono ?_; rintro e w2 ⟨rfl, rfl⟩)
  obtain ⟨w2, hw2⟩ : ∃ w2, w2 = (((w1.setCell ⟨G, 12, none⟩ (.bool false)).setCell ⟨G, 13, none⟩ (.int .u8 0)).setCell ⟨G, 14, none⟩ (.bool false)).setCell ⟨G, 15, none⟩ (.int .u16 0) := ⟨_, rfl⟩
  have KF2 := Lib.hid (show Blk w2 G arr2 42 by
    have := (((KF.out.set 12 (.bool false)).set 13 (.int .u8 0)).set 14 (.bool false)).set 15 (.int .u16 0)
    rw [hw2]
    rw [HA.out] at this
    rw [HA2.out]
    exact this)
  have KZ2 := Lib.hid (show Blk w2 (G + 1 + 1) nil18 42 by
    rw [hw2]
    exact (((KZ.out.other (show G ≠ G + 1 + 1 by omega) _).other (show G ≠ G + 1 + 1 by omega) _).other (show G ≠ G + 1 + 1 by omega) _).other (show G ≠ G + 1 + 1 by omega) _)
  have HB2 := Lib.hid (show Below w.heap.size w w2 by
    rw [hw2]
    exact (((HB1.out.setCell (by rw [HG.out]; exact Nat.le_refl _) _).setCell (by rw [HG.out]; exact Nat.le_refl _) _).setCell (by rw [HG.out]; exact Nat.le_refl _) _).setCell (by rw [HG.out]; exact Nat.le_refl _) _)
  rw [← hw2]
  clear hw2 v0 v2 d12 d13 d14 d15 f12 f13 f14 f15
  by_cases h0 : E = 0
  · subst h0
    go_wp2_with (first
      | (refine wpList_load_row rfl 42 _ rfl G rfl 42 _ (0, 0) _ KF2.out Tryd.underlying42 rfl SZ2.out ?_)
      | (go_at_call 39; refine (HEN.out _).mono ?_; rintro e w3 ⟨rfl, hb3⟩
         have KF3 := Lib.hid (KF2.out.below hb3 KF2.out.lt)
         have KZ3 := Lib.hid (KZ2.out.below hb3 KZ2.out.lt)
         have HB3 := Lib.hid (HB2.out.trans (hb3.mono HB2.out.size)))
      | (refine wpList_load_row rfl 42 _ rfl G rfl 42 _ (0, 0) _ KF3.out Tryd.underlying42 rfl SZ2.out ?_)
      | (refine wpList_store_row rfl 42 _ _ rfl (G + 1 + 1) arr2 rfl rfl 42 nil18 KZ3.out SZ2.out (by rw [HA2.out]; rfl) ONE2.out ?_))
    exact bodyPost_ret (v := .tuple #[.agg arr2, .bool true]) (results_row_tmp Tryd.results18 _ _ (G + 1 + 1) 42 arr2 _ _ rfl rfl (KZ3.out.row arr2) Tryd.underlying42 rfl SZ2.out) rfl ⟨by rw [HR.out, HO.out]; simp, below_setRow HB3.out (by rw [HG.out]; omega) arr2⟩
  · have ne : (E != 0) = true := by rw [bne_iff_ne]; exact h0
    have de0 : decide (E = 0) = false := decide_eq_false h0
    go_wp2_with (first
      | (refine wpList_load_row rfl 42 _ rfl G rfl 42 _ (0, 0) _ KF2.out Tryd.underlying42 rfl SZ2.out ?_)
      | (go_at_call 39; refine (HEN.out _).mono ?_; rintro e w3 ⟨rfl, hb3⟩
         have KZ3 := Lib.hid (KZ2.out.below hb3 KZ2.out.lt)
         have HB3 := Lib.hid (HB2.out.trans (hb3.mono HB2.out.size)))
      | (refine wpList_val (.agg nil18) (by rfl) (run_build_of 42 [] rfl [] nil18 rfl built_nil) ?_)
      | (refine wpList_store_row rfl 42 _ _ rfl (G + 1 + 1) nil18 rfl rfl 42 nil18 KZ3.out SZ.out rfl nil18_one' ?_))
    exact bodyPost_ret (v := .tuple #[.agg nil18, .bool false]) (results_row_tmp Tryd.results18 _ _ (G + 1 + 1) 42 nil18 _ _ rfl rfl (KZ3.out.row nil18) Tryd.underlying42 rfl SZ.out) rfl ⟨by rw [HR.out, HO.out, if_neg h0, decide_eq_false h0], below_setRow HB3.out (by rw [HG.out]; omega) nil18⟩

set_option maxRecDepth 100000 in
set_option maxHeartbeats 8000000 in
theorem form_false (d s : Nat → Nat) (tg : Bool) (pc : Nat) (de : Bool) (vi ty : Nat) (da : ByteArray) (vid mem unt : Nat) (port : Int) (w : World) (hd : Six d) (hs : Six s) (ht : ty < 65536) (hz : da.size ≤ 1600) (hu : unt < 4294967296) (hh : hasB unt port = false) :
    Calls Tryd.prog 18 #[.agg (frA d s tg pc de vi ty da), .agg #[.int .u16 (vid : Nat), .int .u32 (mem : Nat), .int .u32 (unt : Nat)], .int .i64 port] w fun e w' => e = .returned (.tuple #[.agg (formR d s true pc de vid ty da), .bool (formO true pc de vid ty da)]) ∧ Below w.heap.size w w' := by
  obtain ⟨arr, harr⟩ : ∃ arr, arr = frA d s tg pc de vi ty da := ⟨_, rfl⟩
  rw [← harr]
  have HA := Lib.hid harr
  have ONE := Lib.hid (show arr.all (·.oneCell') = true by rw [harr]; exact frA_one _ _ _ _ _ _ _ _)
  clear harr
  have SZ := Lib.hid size52
  have HH := Lib.hid (show ∀ W : World, Calls Tryd.prog 19 #[.int .u32 (unt : Nat), .int .i64 port] W fun e w' => e = .returned (.bool false) ∧ W = w' from fun W => by rw [← hh]; exact has_any unt port W hu)
  obtain ⟨arr2, harr2⟩ : ∃ arr2, arr2 = frA d s true pc de vid ty da := ⟨_, rfl⟩
  have HA2 := Lib.hid harr2
  have SZ2 := Lib.hid (show (Tryd.prog.info? 42).map (·.size) = some arr2.size by rw [harr2]; exact size52)
  have ONE2 := Lib.hid (show arr2.all (·.oneCell') = true by rw [harr2]; exact frA_one _ _ _ _ _ _ _ _)
  obtain ⟨E, hE⟩ : ∃ E, E = encE true pc de vid ty da := ⟨_, rfl⟩
  obtain ⟨S, hS⟩ : ∃ S, S = encS d s true pc de vid ty da := ⟨_, rfl⟩
  have HEN := Lib.hid (show ∀ W : World, Calls Tryd.prog 39 #[.agg arr2] W fun e w' => e = .returned (.tuple #[.string S, .int .i64 E]) ∧ Below W.heap.size W w' from fun W => by rw [harr2, hE, hS]; exact encode_any d s true pc de vid ty da W hd hs ht hz)
  have HR := Lib.hid (show formR d s true pc de vid ty da = if E = 0 then arr2 else nil18 by rw [harr2, hE]; rfl)
  have HO := Lib.hid (show formO true pc de vid ty da = decide (E = 0) by rw [hE]; rfl)
  obtain ⟨R, hR⟩ : ∃ R, R = formR d s true pc de vid ty da := ⟨_, rfl⟩
  obtain ⟨O, hO⟩ : ∃ O, O = formO true pc de vid ty da := ⟨_, rfl⟩
  rw [← hR] at HR
  rw [← hO] at HO
  rw [← hR, ← hO]
  clear hR hO harr2 hE hS hd hs ht hz hu hh
  obtain ⟨G, hG⟩ : ∃ G, G = w.heap.size := ⟨_, rfl⟩
  obtain ⟨w1, hw1⟩ : ∃ w1, w1 = ((w.alloc (.cells arr 42)).alloc (.cells #[.int .u16 (vid : Nat), .int .u32 (mem : Nat), .int .u32 (unt : Nat)] 73)).alloc (.cells nil18 42) := ⟨_, rfl⟩
  have HB1 := Lib.hid (show Below w.heap.size w w1 by rw [hw1]; exact (((Below.refl w.heap.size w).alloc (Nat.le_refl _) _).alloc (by simp) _).alloc (by simp; omega) _)
  have KF := Lib.hid (show Blk w1 G arr 42 by rw [hw1, hG]; exact ((Blk.new _ _ _).alloc _).alloc _)
  have KV := Lib.hid (show Blk w1 (G + 1) #[.int .u16 (vid : Nat), .int .u32 (mem : Nat), .int .u32 (unt : Nat)] 73 by
    have := (Blk.new (w.alloc (.cells arr 42)) #[.int .u16 (vid : Nat), .int .u32 (mem : Nat), .int .u32 (unt : Nat)] 73).alloc (.cells nil18 42)
    rw [hw1, hG]
    simpa using this)
  have KZ := Lib.hid (show Blk w1 (G + 1 + 1) nil18 42 by
    have := Blk.new ((w.alloc (.cells arr 42)).alloc (.cells #[.int .u16 (vid : Nat), .int .u32 (mem : Nat), .int .u32 (unt : Nat)] 73)) nil18 42
    rw [hw1, hG]
    simpa using this)
  have HW := Lib.hid hw1
  have HG := Lib.hid hG
  clear hw1 hG
  go_enter Tryd.func18, Tryd.ntmps18
  go_upto_region 1 with (first
    | (refine wpList_alloc 42 rfl (by rfl) nil18 zero46' ?_))
  rw [← HW.out, ← HG.out]
  have v0 : w1.cell? ⟨G + 1, 0, none⟩ = some (.int .u16 (vid : Nat)) := KV.out.cell 0
  have v2 : w1.cell? ⟨G + 1, 2, none⟩ = some (.int .u32 (unt : Nat)) := KV.out.cell 2
  have d12 : w1.cell? ⟨G, 12, none⟩ = some (.bool tg) := by rw [KF.out.cell, HA.out]; rfl
  have d13 : w1.cell? ⟨G, 13, none⟩ = some (.int .u8 (pc : Nat)) := by rw [KF.out.cell, HA.out]; rfl
  have d14 : w1.cell? ⟨G, 14, none⟩ = some (.bool de) := by rw [KF.out.cell, HA.out]; rfl
  have d15 : w1.cell? ⟨G, 15, none⟩ = some (.int .u16 (vi : Nat)) := by rw [KF.out.cell, HA.out]; rfl
  have f12 := KF.out.free 12
  have f13 := KF.out.free 13
  have f14 := KF.out.free 14
  have f15 := KF.out.free 15
  go_upto_region 3 with (go_at_call 19; refine (HH.out _).mono ?_; rintro e w2 ⟨rfl, rfl⟩)
  refine wp_region_inv (I := fun L ac W => ∃ v18 v19 v20 v21 : Value, ac = { tmps := #[.agg arr, .agg #[.int .u16 (vid : Nat), .int .u32 (mem : Nat), .int .u32 (unt : Nat)], .int .i64 port, .pointer (some ⟨G, 0, none⟩), .pointer (some ⟨G + 1, 0, none⟩), undef, .pointer (some ⟨G + 1 + 1, 0, none⟩), .bool false, undef, undef, .pointer (some ⟨G + 1, 2, none⟩), .int .u32 (unt : Nat), .int .i64 port, .bool false, undef, undef, undef, undef, v18, v19, v20, v21, undef, undef, undef, undef, undef, undef, undef, undef, undef], defers := [] } ∧ (L 0 = true → v18 = .pointer (some ⟨G + 1, 0, none⟩)) ∧ (L 1 = true → v19 = .int .u16 (vid : Nat)) ∧ (L 2 = true → v20 = .pointer (some ⟨G, 12, none⟩)) ∧ (L 4 = true → v21 = .pointer (some ⟨G, 15, none⟩)) ∧
    Blk W G (frA d s (if L 3 = true then true else tg) pc de (if L 5 = true then vid else vi) ty da) 42 ∧ Blk W (G + 1) #[.int .u16 (vid : Nat), .int .u32 (mem : Nat), .int .u32 (unt : Nat)] 73 ∧ Blk W (G + 1 + 1) nil18 42 ∧ Below w.heap.size w W) (by kernel_rfl) (by kernel_rfl) ⟨_, _, _, _, rfl, (fun h => Bool.noConfusion h), (fun h => Bool.noConfusion h), (fun h => Bool.noConfusion h), (fun h => Bool.noConfusion h), (by have := KF.out.drew; rw [HA.out] at this; exact this), KV.out.drew, KZ.out.drew, HB1.out.drew⟩ ?_ ?_
  · rintro k hk L ac W ⟨v18, v19, v20, v21, rfl, e18, e19, e20, e21, bF, bV, bZ, hb⟩ hL haft
    match k, hk with
    | 0, _ =>
      exact i_val rfl (.pointer (some ⟨G + 1, 0, none⟩)) W (by rfl) (by go_simp) ⟨_, v19, v20, v21, rfl, (fun _ => rfl), e19, e20, e21, bF, bV, bZ, hb⟩
    | 1, _ =>
      have e := e18 (haft 0 (by decide))
      subst e
      have q := bV.cell 0
      simp only [List.getElem?_toArray, List.getElem?_cons_zero, List.getElem?_cons_succ] at q
      exact i_val rfl (.int .u16 (vid : Nat)) W (by rfl) (by go_simp) ⟨_, _, v20, v21, rfl, e18, (fun _ => rfl), e20, e21, bF, bV, bZ, hb⟩
    | 2, _ =>
      exact i_val rfl (.pointer (some ⟨G, 12, none⟩)) W (by rfl) (by go_simp) ⟨v18, v19, _, v21, rfl, e18, e19, (fun _ => rfl), e21, bF, bV, bZ, hb⟩
    | 3, _ =>
      have e := e20 (haft 2 (by decide))
      subst e
      refine i_wp rfl (by rfl) ?_
      have q := bF.cell 12
      have f := bF.free 12
      simp only [List.getElem?_toArray, List.getElem?_cons_zero, List.getElem?_cons_succ] at q
      go_simp
      refine ⟨v18, v19, .pointer (some ⟨G, 12, none⟩), v21, ⟨rfl, rfl, rfl, rfl⟩, e18, e19, e20, e21, ?_, ?_, ?_, ?_⟩
      · have := bF.set 12 (.bool true)
        exact this
      · exact bV.other (show G ≠ G + 1 by omega) _
      · exact bZ.other (show G ≠ G + 1 + 1 by omega) _
      · exact hb.setCell (by rw [HG.out]; exact Nat.le_refl _) _
    | 4, _ =>
      exact i_val rfl (.pointer (some ⟨G, 15, none⟩)) W (by rfl) (by go_simp) ⟨v18, v19, v20, _, rfl, e18, e19, e20, (fun _ => rfl), bF, bV, bZ, hb⟩
    | 5, _ =>
      have e := e21 (haft 4 (by decide))
      subst e
      have e := e19 (haft 1 (by decide))
      subst e
      refine i_wp rfl (by rfl) ?_
      have q := bF.cell 15
      have f := bF.free 15
      simp only [List.getElem?_toArray, List.getElem?_cons_zero, List.getElem?_cons_succ] at q
      go_simp
      refine ⟨v18, .int .u16 (vid : Nat), v20, .pointer (some ⟨G, 15, none⟩), ⟨rfl, rfl, rfl, rfl⟩, e18, e19, e20, e21, ?_, ?_, ?_, ?_⟩
      · have := bF.set 15 (.int .u16 (vid : Nat))
        rw [show (upd L 5 3 || tg) = (if L 3 = true then true else tg) from by show (L 3 || tg) = _; cases L 3 <;> rfl]
        exact this
      · exact bV.other (show G ≠ G + 1 by omega) _
      · exact bZ.other (show G ≠ G + 1 + 1 by omega) _
      · exact hb.setCell (by rw [HG.out]; exact Nat.le_refl _) _
    | k + 6, h =>
      exfalso
      have h2 : k + 6 < 6 := h
      omega
  rintro L ac w2 ⟨v18, v19, v20, v21, rfl, e18, e19, e20, e21, bF, bV, bZ, hb⟩ hall
  rw [if_pos (hall 3 (by decide)), if_pos (hall 5 (by decide)), ← HA2.out] at bF
  have KF2 := Lib.hid bF
  have KZ2 := Lib.hid bZ
  have HB2 := Lib.hid hb
  clear e18 e19 e20 e21 bF bV bZ hb hall v0 v2 d12 d13 d14 d15 f12 f13 f14 f15
  by_cases h0 : E = 0
  · subst h0
    go_wp2_with (first
      | (refine wpList_load_row rfl 42 _ rfl G rfl 42 _ (0, 0) _ KF2.out Tryd.underlying42 rfl SZ2.out ?_)
      | (go_at_call 39; refine (HEN.out _).mono ?_; rintro e w3 ⟨rfl, hb3⟩
         have KF3 := Lib.hid (KF2.out.below hb3 KF2.out.lt)
         have KZ3 := Lib.hid (KZ2.out.below hb3 KZ2.out.lt)
         have HB3 := Lib.hid (HB2.out.trans (hb3.mono HB2.out.size)))
      | (refine wpList_load_row rfl 42 _ rfl G rfl 42 _ (0, 0) _ KF3.out Tryd.underlying42 rfl SZ2.out ?_)
      | (refine wpList_store_row rfl 42 _ _ rfl (G + 1 + 1) arr2 rfl rfl 42 nil18 KZ3.out SZ2.out (by rw [HA2.out]; rfl) ONE2.out ?_))
    exact bodyPost_ret (v := .tuple #[.agg arr2, .bool true]) (results_row_tmp Tryd.results18 _ _ (G + 1 + 1) 42 arr2 _ _ rfl rfl (KZ3.out.row arr2) Tryd.underlying42 rfl SZ2.out) rfl ⟨by rw [HR.out, HO.out]; simp, below_setRow HB3.out (by rw [HG.out]; omega) arr2⟩
  · have ne : (E != 0) = true := by rw [bne_iff_ne]; exact h0
    have de0 : decide (E = 0) = false := decide_eq_false h0
    go_wp2_with (first
      | (refine wpList_load_row rfl 42 _ rfl G rfl 42 _ (0, 0) _ KF2.out Tryd.underlying42 rfl SZ2.out ?_)
      | (go_at_call 39; refine (HEN.out _).mono ?_; rintro e w3 ⟨rfl, hb3⟩
         have KZ3 := Lib.hid (KZ2.out.below hb3 KZ2.out.lt)
         have HB3 := Lib.hid (HB2.out.trans (hb3.mono HB2.out.size)))
      | (refine wpList_val (.agg nil18) (by rfl) (run_build_of 42 [] rfl [] nil18 rfl built_nil) ?_)
      | (refine wpList_store_row rfl 42 _ _ rfl (G + 1 + 1) nil18 rfl rfl 42 nil18 KZ3.out SZ.out rfl nil18_one' ?_))
    exact bodyPost_ret (v := .tuple #[.agg nil18, .bool false]) (results_row_tmp Tryd.results18 _ _ (G + 1 + 1) 42 nil18 _ _ rfl rfl (KZ3.out.row nil18) Tryd.underlying42 rfl SZ.out) rfl ⟨by rw [HR.out, HO.out, if_neg h0, decide_eq_false h0], below_setRow HB3.out (by rw [HG.out]; omega) nil18⟩
end
section
/- What the plane handles: tables as something owned, frames, what is sent; what passing answers. -/
open Go.RowKit
attribute [local irreducible] wpQuiet wpList

theorem gA {α : Type} {l : List α} {i : Nat} (h : i < l.toArray.size) : l.toArray[i] = l[i]'(by simpa using h) := List.getElem_toArray h
theorem gS {α : Type} {a : α} {l : List α} {i : Nat} (h : i + 1 < (a :: l).length) : (a :: l)[i + 1] = l[i]'(Nat.lt_of_succ_lt_succ h) := List.getElem_cons_succ ..
theorem gZ {α : Type} {a : α} {l : List α} (h : 0 < (a :: l).length) : (a :: l)[0] = a := rfl
theorem sA {α : Type} {l : List α} {i : Nat} {a : α} : l.toArray.setIfInBounds i a = (l.set i a).toArray := List.setIfInBounds_toArray ..
theorem sZ {α : Type} {a b : α} {l : List α} : (a :: l).set 0 b = b :: l := rfl
theorem sS {α : Type} {a b : α} {l : List α} {n : Nat} : (a :: l).set (n + 1) b = a :: l.set n b := rfl
theorem wv {P : Program} {ops : Array Oper} {Q : Exit → Act → World → Prop} {a : Act} {w : World} {rest : List Oper} {o : Oper} (v : Value) (h : wpList P ops Q rest (a.put o.dst v) w) (hw : Region.wanted o (yielded ops a.tmps) = true := by rfl)
    (hrun : (execOp a.eval o).run P w = .ok (.value v) w := by go_simp) : wpList P ops Q (o :: rest) a w := wpList_val v hw hrun h
section
variable {α : Type} {enc : α → List Value} {size : Nat} {w w' : World} {base : Nat} {e : TypeId} {v : Value} {l : List α}
/-- Its address, its room. -/
theorem Own.shape (h : Own w base e size enc v l) : ∃ a c, v = .slice a l.length c ∧ l.length ≤ c ∧ c ≤ maxLen := by
  rcases h.cases with ⟨rfl, rfl⟩ | ⟨g, cap, rfl, -, -, h1, h2⟩
  · exact ⟨none, 0, rfl, Nat.le_refl _, by unfold maxLen; omega⟩
  · exact ⟨_, cap, rfl, h1, h2⟩
/-- An element of it. -/
theorem Own.elem (henc : ∀ x, (enc x).length = size) {a : Option Addr} {c : Nat} (h : Own w base e size enc (.slice a l.length c) l) {k : Nat} {x : α} (hx : l[k]? = some x) :
    ∃ g, a = some ⟨g, 0, none⟩ ∧ base ≤ g ∧ g < w.heap.size ∧ ∀ W, Below w.heap.size w W → W.rangeAt g (k * size) (enc x) := by
  have hk : k < l.length := (List.getElem?_eq_some_iff.1 hx).1
  rcases h.cases with ⟨h1, rfl⟩ | ⟨g, cap, h1, h2, h3, -, -⟩
  · simp at hk
  · injection h1 with h1 _ h4
    subst h1
    subst h4
    refine ⟨g, rfl, h2, h3, fun W hW j u hu => ?_⟩
    have hj : j < size := by have := (List.getElem?_eq_some_iff.1 hu).1; rw [henc] at this; exact this
    rw [(h.next hW).at henc k j x hx hj, hu]
end
theorem range_part {w : World} {g b o : Nat} {arr part : Array Value} (h : w.rangeAt g b arr.toList) (hp : ∀ k v, part.toList[k]? = some v → arr[o + k]? = some v) : w.rangeAt g (b + o) part.toList := fun j u hu => by
  have q := hp j u hu
  have := h (o + j) u (by simpa using q)
  rw [Nat.add_assoc]
  exact this
theorem range_cell {w : World} {g b o : Nat} {arr : Array Value} {v : Value} (h : w.rangeAt g b arr.toList) (hp : arr[o]? = some v) : w.cell? ⟨g, b + o, none⟩ = some v := h o v (by simpa using hp)

/-- Blocks as something owned. -/
def bdK (l : List (Nat × Array Value × TypeId)) : Bd :=
  ⟨fun W => ∀ x ∈ l, Blk W x.1 x.2.1 x.2.2, fun k => k ∈ l.map (·.1), fun h q => by obtain ⟨x, hx, rfl⟩ := List.mem_map.1 q; exact (h x hx).lt, fun h m n x hx => (h x hx).fr m (n x.1 (List.mem_map.2 ⟨x, hx, rfl⟩))⟩
/-- Tables as something owned. -/
def bdT (w0 : World) (i : Ix) (lv : List Vl) (ls : List Se) (lf : List En) : Bd :=
  ⟨fun W => T3 w0 i lv ls lf W, fun k => (i.a1 ≤ k ∧ k < i.z1) ∨ (i.a2 ≤ k ∧ k < i.z2) ∨ (i.a3 ≤ k ∧ k < i.z3), fun h q => by have := h.low; omega,
   fun h m n => by
     have hl := h.low
     have hs := m.size
     exact ⟨h.tabV.keep (fun k k1 k2 => m.block k (by omega) (n k (.inl ⟨k1, k2⟩))), h.tabS.keep (fun k k1 k2 => m.block k (by omega) (n k (.inr (.inl ⟨k1, k2⟩)))), h.tabF.keep (fun k k1 k2 => m.block k (by omega) (n k (.inr (.inr ⟨k1, k2⟩)))), ⟨hl.1, hl.2.1, hl.2.2.1, hl.2.2.2.1, hl.2.2.2.2.1, hl.2.2.2.2.2.1, by omega⟩, h.smV, h.smS⟩⟩
section
variable {w0 w w' : World} {l : List (Nat × Array Value × TypeId)} {A A' C : Bd} {i : Ix} {lv lv' : List Vl} {ls ls' : List Se} {lf lf' : List En}
theorem Kx.fold (K : Kx w0 l A w) : Kx w0 [] (A.and (bdK l)) w :=
  ⟨⟨fun _ h => (by cases h), K.below, fun _ h => (by cases h), List.nodup_nil⟩, ⟨K.a, K.kb.all⟩, fun _ h => (by cases h), fun k h => by
    rcases h with h | h
    · exact K.nw k h
    · obtain ⟨x, hx, rfl⟩ := List.mem_map.1 h; exact K.kb.new x hx⟩
theorem Kx.back (K : Kx w0 l A w) (h : Kx w0 [] (A'.and (bdK l)) w') (hf : ∀ k, A'.f k → A.f k ∨ w.heap.size ≤ k) : Kx w0 l A' w' :=
  ⟨⟨h.a.2, h.below, K.kb.new, K.kb.nd⟩, h.a.1, fun x hx q => by
    rcases hf _ q with q | q
    · exact K.ap x hx q
    · have := (K.kb.all x hx).lt; omega, fun k q => h.nw k (.inl q)⟩
theorem Kx.turn (K : Kx w0 l A w) (h : A.p w → A'.p w) (hf : ∀ k, A'.f k → A.f k) : Kx w0 l A' w := ⟨K.kb, h K.a, fun x hx q => K.ap x hx (hf _ q), fun k q => K.nw k (hf k q)⟩
/-- Some of one's owned things change, and nothing else. -/
theorem Kx.moved (K : Kx w0 l (A.and C) w) (m : Mv A.f w w') (h : A'.p w') (hf : ∀ k, A'.f k → A.f k ∨ w.heap.size ≤ k) (hd : ∀ k, C.f k → ¬ A.f k) : Kx w0 l (A'.and C) w' := by
  refine ⟨⟨fun x hx => (K.kb.all x hx).fr m (fun q => K.ap x hx (.inl q)), ?_, K.kb.new, K.kb.nd⟩, ⟨h, C.mv K.a.2 m hd⟩, fun x hx q => ?_, fun k q => ?_⟩
  · refine K.below.trans ⟨m.os, m.tape, m.output, m.size, fun k hk => m.block k (Nat.lt_of_lt_of_le hk K.below.size) (fun q => ?_)⟩
    have := K.nw k (.inl q)
    omega
  · rcases q with q | q
    · rcases hf _ q with q | q
      · exact K.ap x hx (.inl q)
      · have := (K.kb.all x hx).lt; omega
    · exact K.ap x hx (.inr q)
  · rcases q with q | q
    · rcases hf _ q with q | q
      · exact K.nw k (.inl q)
      · exact Nat.le_trans K.below.size q
    · exact K.nw k (.inr q)
theorem KeptO.mv {A B : Nat} {F : Nat → Prop} (h : KeptO A B w w') (hF : ∀ k, A ≤ k → k < B → F k) : Mv F w w' := ⟨h.os, h.tape, h.output, h.size, fun k hk hn => h.block k (by
  rcases Nat.lt_or_ge k A with q | q
  · exact .inl q
  · rcases Nat.lt_or_ge k B with r | r
    · exact absurd (hF k q r) hn
    · exact .inr r) hk⟩
theorem kx_setV (K : Kx w0 l ((bdT w0 i lv ls lf).and C) w) (hd : ∀ k, C.f k → ¬ (bdT w0 i lv ls lf).f k) (x : Vl) :
    Calls Tryd.prog 25 #[.pointer (some ⟨i.b1, 0, none⟩), vlV x] w fun e w' => e = .returned (.int .i64 (setVE lv x)) ∧ Kx w0 l ((bdT w0 i (setV lv x) ls lf).and C) w' := by
  have h : T3 w0 i lv ls lf w := K.a.1
  have hl := h.low
  refine (set_tm x h.tabV (by omega) (by omega)).mono fun e w' ⟨q1, q3, q4⟩ => ⟨q1, ?_⟩
  have hz := q4.size
  refine K.moved (A' := bdT w0 i (setV lv x) ls lf) (q4.mv (F := (bdT w0 i lv ls lf).f) (fun k k1 k2 => .inl ⟨k1, k2⟩)) (show T3 w0 i (setV lv x) ls lf w' from ⟨q3, h.tabS.keep (fun k k1 k2 => q4.block k (.inr (by omega)) (by omega)), h.tabF.keep (fun k k1 k2 => q4.block k (.inr (by omega)) (by omega)), ⟨hl.1, hl.2.1, hl.2.2.1, hl.2.2.2.1, hl.2.2.2.2.1, hl.2.2.2.2.2.1, by omega⟩, setV_small h.smV x, h.smS⟩) (fun k q => .inl q) hd
theorem kx_setS (K : Kx w0 l ((bdT w0 i lv ls lf).and C) w) (hd : ∀ k, C.f k → ¬ (bdT w0 i lv ls lf).f k) (x : Se) (hx : seOk x) (hll : ls.length ≤ 100) :
    Calls Tryd.prog 26 #[.pointer (some ⟨i.b2, 0, none⟩), seV x] w fun e w' => e = .returned (.int .i64 (setSE ls x)) ∧ Kx w0 l ((bdT w0 i lv (setS ls x) lf).and C) w' := by
  have h : T3 w0 i lv ls lf w := K.a.1
  have hl := h.low
  refine (set_ts x hx h.tabS hll (by omega) (by omega)).mono fun e w' ⟨q1, q3, q4⟩ => ⟨q1, ?_⟩
  have hz := q4.size
  refine K.moved (A' := bdT w0 i lv (setS ls x) lf) (q4.mv (F := (bdT w0 i lv ls lf).f) (fun k k1 k2 => .inr (.inl ⟨k1, k2⟩))) (show T3 w0 i lv (setS ls x) lf w' from ⟨h.tabV.keep (fun k k1 k2 => q4.block k (.inl (by omega)) (by omega)), q3, h.tabF.keep (fun k k1 k2 => q4.block k (.inr (by omega)) (by omega)), ⟨hl.1, hl.2.1, hl.2.2.1, hl.2.2.2.1, hl.2.2.2.2.1, hl.2.2.2.2.2.1, by omega⟩, h.smV, setS_small h.smS x⟩) (fun k q => .inl q) hd
theorem kx_learn (K : Kx w0 l ((bdT w0 i lv ls lf).and C) w) (hd : ∀ k, C.f k → ¬ (bdT w0 i lv ls lf).f k) (vid a : Nat) (port : Int) (ha : a < 281474976710656) (hm : 1 ≤ i.mo) :
    Calls Tryd.prog 13 #[.pointer (some ⟨i.b3, 0, none⟩), kyV vid a, .int .i64 port] w fun e w' => ∃ l' gv full, LearnR i.mo i.li lf ⟨vid, a, port, 0⟩ l' gv full ∧ e = .returned (.tuple #[.agg gv, .bool full]) ∧ Kx w0 l ((bdT w0 i lv ls l').and C) w' := by
  have h : T3 w0 i lv ls lf w := K.a.1
  have hl := h.low
  refine (learn_tf vid a port ha hm h.tabF (by omega) (by omega)).mono fun e w' ⟨l', gv, full, q1, q2, q3, q4⟩ => ⟨l', gv, full, q1, q2, ?_⟩
  have hz := q4.size
  refine K.moved (q4.mv (F := (bdT w0 i lv ls lf).f) (fun k k1 k2 => .inr (.inr ⟨k1, k2⟩))) (show T3 w0 i lv ls l' w' from ⟨h.tabV.keep (fun k k1 k2 => q4.block k (.inl (by omega)) (by omega)), h.tabS.keep (fun k k1 k2 => q4.block k (.inl (by omega)) (by omega)), q3, ⟨hl.1, hl.2.1, hl.2.2.1, hl.2.2.2.1, hl.2.2.2.2.1, hl.2.2.2.2.2.1, by omega⟩, h.smV, h.smS⟩) (fun k q => .inl q) hd
end

/-- A frame. -/
structure Fr where
  d : Nat → Nat
  s : Nat → Nat
  tg : Bool
  pc : Nat
  de : Bool
  vi : Nat
  ty : Nat
  da : ByteArray
abbrev frB (x : Fr) : Array Value := frA x.d x.s x.tg x.pc x.de x.vi x.ty x.da
def fA (x : Fr) : Array Value := frB x
theorem fA_one (x : Fr) : (fA x).all (·.oneCell') = true := frA_one _ _ _ _ _ _ _ _
theorem fA_size (x : Fr) : (Tryd.prog.info? 42).map (·.size) = some (fA x).size := size52
structure Fr.ok (x : Fr) : Prop where
  d : Six x.d
  s : Six x.s
  ty : x.ty < 65536
  da : x.da.size ≤ 1600
  sa : ∃ a, a < 281474976710656 ∧ x.s = byteF a
  dd : ∃ a, a < 281474976710656 ∧ x.d = byteF a
/-- As a port of a VLAN sends it. -/
def forT (x : Fr) (v : Vl) (p : Int) : Fr := if hasB v.unt p = true then ⟨x.d, x.s, false, 0, false, 0, x.ty, x.da⟩ else ⟨x.d, x.s, true, x.pc, x.de, v.vid, x.ty, x.da⟩
def forK (x : Fr) (v : Vl) (p : Int) : Bool := decide (encE (forT x v p).tg (forT x v p).pc (forT x v p).de (forT x v p).vi (forT x v p).ty (forT x v p).da = 0)
def forA (x : Fr) (v : Vl) (p : Int) : Array Value := if forK x v p = true then fA (forT x v p) else nil18
theorem form_any (x : Fr) (v : Vl) (p : Int) (w : World) (h : x.ok) (hu : v.unt < 4294967296) :
    Calls Tryd.prog 18 #[.agg (fA x), vlV v, .int .i64 p] w fun e w' => e = .returned (.tuple #[.agg (forA x v p), .bool (forK x v p)]) ∧ Below w.heap.size w w' := by
  obtain ⟨vid, mem, unt⟩ := v
  cases c : hasB unt p with
  | true =>
    have q := form_true x.d x.s x.tg x.pc x.de x.vi x.ty x.da vid mem unt p w h.d h.s h.ty h.da hu c
    have e1 : forT x ⟨vid, mem, unt⟩ p = ⟨x.d, x.s, false, 0, false, 0, x.ty, x.da⟩ := by unfold forT; rw [if_pos c]
    unfold forA forK
    rw [e1]
    unfold formR formO at q
    simp only [decide_eq_true_eq]
    exact q
  | false =>
    have q := form_false x.d x.s x.tg x.pc x.de x.vi x.ty x.da vid mem unt p w h.d h.s h.ty h.da hu c
    have e1 : forT x ⟨vid, mem, unt⟩ p = ⟨x.d, x.s, true, x.pc, x.de, vid, x.ty, x.da⟩ := by unfold forT; rw [if_neg (by rw [show (Vl.mk vid mem unt).unt = unt from rfl, c]; decide)]
    unfold forA forK
    rw [e1]
    unfold formR formO at q
    simp only [decide_eq_true_eq]
    exact q
/-- What is sent. -/
structure Sn where
  p : Int
  fr : Fr
def snA (x : Sn) : Array Value := #[.int .i64 x.p, .int .u8 (x.fr.d 0 : Nat), .int .u8 (x.fr.d 1 : Nat), .int .u8 (x.fr.d 2 : Nat), .int .u8 (x.fr.d 3 : Nat), .int .u8 (x.fr.d 4 : Nat), .int .u8 (x.fr.d 5 : Nat), .int .u8 (x.fr.s 0 : Nat), .int .u8 (x.fr.s 1 : Nat), .int .u8 (x.fr.s 2 : Nat), .int .u8 (x.fr.s 3 : Nat), .int .u8 (x.fr.s 4 : Nat), .int .u8 (x.fr.s 5 : Nat), .bool x.fr.tg, .int .u8 (x.fr.pc : Nat), .bool x.fr.de, .int .u16 (x.fr.vi : Nat), .int .u16 (x.fr.ty : Nat), .string x.fr.da]
def snC (x : Sn) : List Value := (snA x).toList
theorem sn_len (x : Sn) : (snC x).length = 19 := rfl
theorem sn_all (x : Sn) : (snA x).all (·.oneCell') = true := by simp [snA, Value.oneCell']
theorem sn_one (x : Sn) : ∀ u ∈ snC x, u.oneCell' = true := by
  have := sn_all x
  rw [Array.all_eq_true'] at this
  intro u hu
  exact this u (by simpa [snC] using hu)
theorem sn_info (x : Sn) : (Tryd.prog.info? 81).map (·.size) = some (snA x).size := by kernel_rfl
theorem sn_info' : ∃ i z b, Tryd.prog.info? 81 = some i ∧ i.zero = some z ∧ i.size = 19 ∧ i.bytes = b ∧ z.cells.size = 19 ∧ b ≤ 1000 := by
  obtain ⟨i, h1, h3, h4, h5⟩ := info_parts (show (Tryd.prog.info? 81).map (fun i => (i.zero, i.size, i.bytes)) = some (some (.agg #[.int .i64 0, .int .u8 0, .int .u8 0, .int .u8 0, .int .u8 0, .int .u8 0, .int .u8 0, .int .u8 0, .int .u8 0, .int .u8 0, .int .u8 0, .int .u8 0, .int .u8 0, .bool false, .int .u8 0, .bool false, .int .u16 0, .int .u16 0, .string ⟨#[]⟩]), 19, 48) by kernel_rfl)
  exact ⟨i, _, _, h1, h3, h4, h5, rfl, by decide⟩
theorem snT : ElT Tryd.prog 46 81 19 snC := ⟨Tryd.underlying46, sn_info', by decide, sn_len, sn_one⟩
theorem built_sn (p : Int) (x : Fr) : Tryd.prog.built 81 [(0, .int .i64 p), (1, .agg (fA x))] = some (snA ⟨p, x⟩) := by kernel_rfl

def onP (x : Po) : Bool := x.p7 && x.p6
set_option maxHeartbeats 2000000 in
theorem on_any (x : Po) (w : World) : Calls Tryd.prog 9 #[poV x] w fun e w' => e = .returned (.bool (onP x)) ∧ Below w.heap.size w w' := by
  obtain ⟨a, ha⟩ : ∃ a, a = poA x := ⟨_, rfl⟩
  obtain ⟨w1, hw1⟩ : ∃ w1, w1 = w.alloc (.cells a 58) := ⟨_, rfl⟩
  have HW := Lib.hid hw1
  have B1 := Lib.hid (show Below w.heap.size w w1 by rw [hw1]; exact (Below.refl _ _).alloc (Nat.le_refl _) _)
  have KX := Lib.hid (show Blk w1 w.heap.size (poA x) 58 by rw [hw1, ← ha]; exact Blk.new _ _ _)
  obtain ⟨u, hu⟩ : ∃ u, u = x.p7 := ⟨_, rfl⟩
  obtain ⟨ad, had⟩ : ∃ u, u = x.p6 := ⟨_, rfl⟩
  have HR := Lib.hid (show onP x = (u && ad) by rw [hu, had]; rfl)
  obtain ⟨R, hR⟩ : ∃ R, R = onP x := ⟨_, rfl⟩
  rw [← hR] at HR
  show Calls Tryd.prog 9 #[.agg (poA x)] w fun e w' => e = .returned (.bool (onP x)) ∧ Below w.heap.size w w'
  rw [← ha, ← hR]
  have c6 : w1.cell? ⟨w.heap.size, 6, none⟩ = some (.bool ad) := by rw [had]; exact KX.out.cell 6
  have c7 : w1.cell? ⟨w.heap.size, 7, none⟩ = some (.bool u) := by rw [hu]; exact KX.out.cell 7
  clear ha hw1 hu had hR
  go_enter Tryd.func9, Tryd.ntmps9
  go_upto_region 1 with fail
  rw [← HW.out]
  cases u
  · go_wp2_with fail
    go_ret
    exact ⟨by rw [HR.out]; rfl, B1.out⟩
  · go_wp2_with fail
    go_ret
    exact ⟨by rw [HR.out]; rfl, B1.out⟩
/-- What becomes of a frame: its VLAN, and what it counts as. -/
def vidM (p : Po) (x : Fr) : Nat := if ownB x.tg x.vi = true then x.vi else p.p0.toNat
def ingM (lv : List Vl) (p : Po) (fr : Int) (x : Fr) : Int := ingC p.p1 p.p2 (ownB x.tg x.vi) (findV (vidM p x) lv).2 (hasB (findV (vidM p x) lv).1.mem fr)
def whyN (c : Int) : Int := if c = 0 then 7 else if c = 1 then 3 else if c = 2 then 4 else 5
def entM (lv : List Vl) (ps : List Po) (fr : Int) (x : Fr) : Nat × Int :=
  if fr < 1 then (0, 6) else match ps[(fr - 1).toNat]? with
    | none => (0, 6)
    | some p => if onP p = false then (0, 6) else if p.p11 = 0 then (0, 6) else if resB x.d = true then (0, 2) else (ingV (vidM p x) (ingM lv p fr x), whyN (ingM lv p fr x))
def openM (ps : List Po) : Nat → Nat
  | 0 => 0
  | k + 1 => match ps[k]? with | some p => (if onP p = true ∧ p.p11 = 2 then withS (openM ps k) ((k : Int) + 1) else openM ps k) | none => openM ps k
def sendL (x : Fr) (v : Vl) (ports : List Int) : List Sn := ports.filterMap fun p => if forK x v p = true then some ⟨p, forT x v p⟩ else none
abbrev whysA : Array Value := #[.int .i64 7, .int .i64 3, .int .i64 4, .int .i64 5]
theorem whysNo : Tryd.prog.globalNamed "girder/plane.whys" = some 0 := by kernel_rfl
/-- The table lies as it was laid. -/
def WhysAt (w : World) : Prop := w.var? Tryd.prog "girder/plane.whys" = some whysA
theorem WhysAt.lt {w : World} (h : WhysAt w) : 0 < w.heap.size := by
  unfold WhysAt World.var? at h
  rw [whysNo] at h
  simp only [Option.bind_some] at h
  rcases Nat.lt_or_ge 0 w.heap.size with h' | h'
  · exact h'
  · rw [Array.getElem?_eq_none h'] at h; cases h
theorem WhysAt.cell {w : World} (h : WhysAt w) (j : Nat) : w.cell? ⟨0, j, none⟩ = whysA[j]? := by
  unfold WhysAt World.var? at h
  rw [whysNo] at h
  simp only [Option.bind_some] at h
  cases c : w.heap[0]? with
  | none => rw [c] at h; cases h
  | some o =>
    rw [c] at h
    cases o with
    | cells cs t q =>
      simp only [Option.some.injEq] at h
      subst h
      exact cell_of_row w 0 j _ t q c
    | _ => cases h
theorem WhysAt.next {w w' : World} (h : WhysAt w) {B : Nat} (hb : Below B w w') (hB : 0 < B) : WhysAt w' := by
  unfold WhysAt World.var? at h ⊢
  rw [whysNo] at h ⊢
  simp only [Option.bind_some] at h ⊢
  rw [hb.block 0 hB]
  exact h
end
section
/- plane.enter: what becomes of a frame at its port. -/
open Go.RowKit
attribute [local irreducible] wpQuiet wpList

abbrev nil21 : Array Value := #[.int .u16 0, .int .i64 0, .bool false, .int .u32 0, .int .i64 0, .bool false, .bool false, .bool false, .bool false, .bool false, .int .i64 0, .int .i64 0, .int .i64 0, .int .u64 0, .int .u32 0, .int .u64 0, .int .u16 0, .int .i64 0, .int .i64 0, .int .i64 0, .int .i64 0]
theorem rsize : (Tryd.prog.info? 48).map (·.size) = some 4 := by kernel_rfl
theorem mcSize : (Tryd.prog.info? 40).map (·.size) = some 6 := by kernel_rfl
theorem vlSz : (Tryd.prog.info? 73).map (·.size) = some 3 := by kernel_rfl
theorem enSz : (Tryd.prog.info? 67).map (·.size) = some 9 := by kernel_rfl
theorem z21 : ∀ W : World, (zeroValue 58).run Tryd.prog W = .ok (.agg nil21) W := fun W => Tryd.zeroValue58 W
theorem z18 : ∀ W : World, (zeroValue 42).run Tryd.prog W = .ok (.agg nil18) W := fun W => Tryd.zeroValue42 W
theorem z4 : ∀ W : World, (zeroValue 48).run Tryd.prog W = .ok (.agg #[.slice none 0 0, .int .i64 0, .bool false, .bool false]) W := fun W => Tryd.zeroValue48 W
theorem z3 : ∀ W : World, (zeroValue 73).run Tryd.prog W = .ok (.agg #[.int .u16 0, .int .u32 0, .int .u32 0]) W := fun W => Tryd.zeroValue73 W
theorem zEn : ∀ W : World, (zeroValue 67).run Tryd.prog W = .ok (.agg enNilA) W := fun W => Tryd.zeroValue67 W
theorem zT : ∀ W : World, (zeroValue 35).run Tryd.prog W = .ok (.agg #[.pointer none, .pointer none, .pointer none]) W := fun W => Tryd.zeroValue35 W
/-- Ports as they are made. -/
structure PoOk (p : Po) : Prop where
  pv : ∃ pv : Nat, p.p0 = pv
  st : p.p11 = 0 ∨ p.p11 = 1 ∨ p.p11 = 2
theorem ing_case (lv : List Vl) (p : Po) (fr : Int) (x : Fr) : ingM lv p fr x = 0 ∨ ingM lv p fr x = 1 ∨ ingM lv p fr x = 2 ∨ ingM lv p fr x = 3 := by
  unfold ingM ingC
  split
  · simp
  · split
    · simp
    · split <;> simp
theorem wr64 {x : Int} (h0 : 0 ≤ x) (h1 : x ≤ 9223372036854775807) : IntKind.i64.wrap x = x := by
  simp [IntKind.wrap, IntKind.bits, IntKind.signed]
  omega
theorem ing_any {w0 w : World} {i : Ix} {lv : List Vl} {ls : List Se} {lf : List En} (h : T3 w0 i lv ls lf w) (p : Po) (pv : Nat) (hp : p.p0 = pv) (fr : Int) (x : Fr) :
    Calls Tryd.prog 11 #[.agg (pgA pv p.p1 p.p2), .int .i64 fr, .agg (fA x), .pointer (some ⟨i.b1, 0, none⟩)] w fun e w' => e = .returned (.tuple #[.int .u16 (ingV (vidM p x) (ingM lv p fr x) : Nat), .int .i64 (ingM lv p fr x)]) ∧ Below w.heap.size w w' := by
  have hv : vidM p x = if ownB x.tg x.vi = true then x.vi else pv := by unfold vidM; rw [hp]; rfl
  have q := ingress_any pv p.p1 p.p2 fr (fA x) x.tg x.vi rfl rfl rfl (.pointer (some ⟨i.b1, 0, none⟩)) (findV (vidM p x) lv).1 (by have := (findV_small h.smV (vidM p x)).1; omega) (findV (vidM p x) lv).2 w
    (fun W hW => by
      rw [← hv]
      exact get_find (vidM p x) (h.next hW).tabV)
  rw [← hv] at q
  exact q

set_option maxRecDepth 100000 in
set_option maxHeartbeats 8000000 in
theorem enter_any {w0 w : World} {i : Ix} {lv : List Vl} {ls : List Se} {lf : List En} {B : Nat} {ps : List Po} {a : Option Addr} {m : Nat} (hT : T3 w0 i lv ls lf w) (hO : Own w B 58 21 poC (.slice a ps.length m) ps) (hm : ps.length ≤ m ∧ m ≤ maxLen) (hok : ∀ y ∈ ps, PoOk y) (hW : WhysAt w) (fr : Int) (x : Fr) (hx : x.ok) :
    Calls Tryd.prog 27 #[.agg (t3A i), .slice a ps.length m, .int .i64 fr, .agg (fA x)] w fun e w' => e = .returned (.tuple #[.int .u16 ((entM lv ps fr x).1 : Nat), .int .i64 (entM lv ps fr x).2]) ∧ Below w.heap.size w w' := by
  have HT := Lib.hid hT
  have HO := Lib.hid hO
  have HM := Lib.hid hm
  have HW := Lib.hid hW
  have HX := Lib.hid hx
  have K := Lib.hid (Kb.nil w)
  obtain ⟨n, hn⟩ : ∃ n, n = ps.length := ⟨_, rfl⟩
  rw [← hn]
  have HN := Lib.hid hn
  have i1 : (n : Int) ≤ 9223372036854775807 := by rw [hn]; unfold maxLen at hm; omega
  obtain ⟨r, hr⟩ : ∃ r, r = entM lv ps fr x := ⟨_, rfl⟩
  have HR := Lib.hid hr
  rw [← hr]
  clear hT hO hm hW hx hn hr
  by_cases c0 : fr < 1
  · have e0 : entM lv ps fr x = (0, 6) := by unfold entM; rw [if_pos c0]
    have HE := Lib.hid e0
    clear e0
    go_enter Tryd.func27, Tryd.ntmps27
    go_upto_region 0 with fail
    refine wp_region_lit ?_
    refine kb_box K.out 35 (.tmp 0) (t3A i) rfl rfl (by rfl) ?_
    intro b1 w1 hb1 hk
    have K1 := Lib.hid (show Kb w [(b1, t3A i, 35)] w1 from hk)
    clear hk hb1
    (try simp only [Act.put, gA, gS, gZ, sA, sZ, sS])
    refine kb_box K1.out 42 (.tmp 3) (fA x) rfl rfl (by rfl) ?_
    intro b2 w2 hb2 hk
    have K2 := Lib.hid (show Kb w [(b1, t3A i, 35), (b2, fA x, 42)] w2 from hk)
    clear hk hb2
    (try simp only [Act.put, gA, gS, gZ, sA, sZ, sS])
    refine wv (.int .u16 0) ?_
    (try simp only [Act.put, gA, gS, gZ, sA, sZ, sS])
    refine wv (.int .i64 0) ?_
    (try simp only [Act.put, gA, gS, gZ, sA, sZ, sS])
    refine wpList_nil ?_
    go_upto_region 1 with fail
    refine wp_region_lit ?_
    refine wv (.int .i64 fr) ?_
    (try simp only [Act.put, gA, gS, gZ, sA, sZ, sS])
    refine wv (.bool true) ?_
    (try simp only [Act.put, gA, gS, gZ, sA, sZ, sS])
    refine wv (.bool true) ?_
    (try simp only [Act.put, gA, gS, gZ, sA, sZ, sS])
    refine wpList_skip (by kernel_rfl) ?_
    (try simp only [Act.put, gA, gS, gZ, sA, sZ, sS])
    refine wpList_skip (by kernel_rfl) ?_
    (try simp only [Act.put, gA, gS, gZ, sA, sZ, sS])
    refine wpList_skip (by kernel_rfl) ?_
    (try simp only [Act.put, gA, gS, gZ, sA, sZ, sS])
    refine wpList_skip (by kernel_rfl) ?_
    (try simp only [Act.put, gA, gS, gZ, sA, sZ, sS])
    refine wv (.bool true) ?_ (hrun := run_pick_yes (.tmp 15) (.const (.bool true)) (.tmp 19) _ rfl rfl rfl)
    (try simp only [Act.put, gA, gS, gZ, sA, sZ, sS])
    refine wpList_nil ?_
    go_wp2_with fail
    go_ret2
    refine ⟨?_, K2.out.below⟩
    rw [HR.out, HE.out]; rfl
  · by_cases c1 : (n : Int) < fr
    · have e0 : entM lv ps fr x = (0, 6) := by
        unfold entM
        rw [if_neg c0, List.getElem?_eq_none (by have := HN.out; omega)]
      have HE := Lib.hid e0
      clear e0
      go_enter Tryd.func27, Tryd.ntmps27
      go_upto_region 0 with fail
      refine wp_region_lit ?_
      refine kb_box K.out 35 (.tmp 0) (t3A i) rfl rfl (by rfl) ?_
      intro b1 w1 hb1 hk
      have K1 := Lib.hid (show Kb w [(b1, t3A i, 35)] w1 from hk)
      clear hk hb1
      (try simp only [Act.put, gA, gS, gZ, sA, sZ, sS])
      refine kb_box K1.out 42 (.tmp 3) (fA x) rfl rfl (by rfl) ?_
      intro b2 w2 hb2 hk
      have K2 := Lib.hid (show Kb w [(b1, t3A i, 35), (b2, fA x, 42)] w2 from hk)
      clear hk hb2
      (try simp only [Act.put, gA, gS, gZ, sA, sZ, sS])
      refine wv (.int .u16 0) ?_
      (try simp only [Act.put, gA, gS, gZ, sA, sZ, sS])
      refine wv (.int .i64 0) ?_
      (try simp only [Act.put, gA, gS, gZ, sA, sZ, sS])
      refine wpList_nil ?_
      go_upto_region 1 with fail
      refine wp_region_lit ?_
      refine wv (.int .i64 fr) ?_
      (try simp only [Act.put, gA, gS, gZ, sA, sZ, sS])
      refine wv (.bool false) ?_
      (try simp only [Act.put, gA, gS, gZ, sA, sZ, sS])
      refine wv (.bool false) ?_
      (try simp only [Act.put, gA, gS, gZ, sA, sZ, sS])
      refine wv (.int .i64 fr) ?_
      (try simp only [Act.put, gA, gS, gZ, sA, sZ, sS])
      refine wv (.slice a n m) ?_
      (try simp only [Act.put, gA, gS, gZ, sA, sZ, sS])
      refine wv (.int .i64 (n : Nat)) ?_
      (try simp only [Act.put, gA, gS, gZ, sA, sZ, sS])
      refine wv (.bool true) ?_
      (try simp only [Act.put, gA, gS, gZ, sA, sZ, sS])
      refine wv (.bool true) ?_ (hrun := run_pick_no (.tmp 15) (.const (.bool true)) (.tmp 19) _ rfl rfl rfl)
      (try simp only [Act.put, gA, gS, gZ, sA, sZ, sS])
      refine wpList_nil ?_
      go_wp2_with fail
      go_ret2
      refine ⟨?_, K2.out.below⟩
      rw [HR.out, HE.out]; rfl
    · obtain ⟨k, hk, rfl⟩ : ∃ k : Nat, k < n ∧ fr = (k : Int) + 1 := ⟨(fr - 1).toNat, by omega, by omega⟩
      obtain ⟨p, hp⟩ : ∃ p, ps[k]? = some p := ⟨_, List.getElem?_eq_getElem (by rw [← HN.out]; exact hk)⟩
      obtain ⟨⟨pv, hpv⟩, hst⟩ := hok p (List.mem_of_getElem? hp)
      obtain ⟨g, hg, -, -, hrow⟩ := HO.out.elem po_len hp
      subst hg
      have HPV := Lib.hid hpv
      have HROW := Lib.hid hrow
      have e0 : entM lv ps ((k : Int) + 1) x = if onP p = false then (0, 6) else if p.p11 = 0 then (0, 6) else if resB x.d = true then (0, 2) else (ingV (vidM p x) (ingM lv p ((k : Int) + 1) x), whyN (ingM lv p ((k : Int) + 1) x)) := by
        unfold entM
        rw [if_neg c0, show (((k : Int) + 1) - 1).toNat = k by omega, hp]
      have HE := Lib.hid e0
      obtain ⟨od, hod⟩ : ∃ od, od = onP p := ⟨_, rfl⟩
      obtain ⟨rb, hrb⟩ : ∃ rb, rb = resB x.d := ⟨_, rfl⟩
      have HOD := Lib.hid hod
      have HRB := Lib.hid hrb
      have HST := Lib.hid hst
      have c2 : (0 : Int) ≤ (k : Int) := by omega
      have c3 : (k : Int) < (n : Int) := by omega
      have c6 : (k : Int) ≤ 9223372036854775807 := by omega
      have HON := Lib.hid (show ∀ W : World, Calls Tryd.prog 9 #[poV p] W fun e w' => e = .returned (.bool od) ∧ Below W.heap.size W w' from fun W => by rw [hod]; exact on_any p W)
      have HRE := Lib.hid (show ∀ W : World, Calls Tryd.prog 10 #[mac x.d] W fun e w' => e = .returned (.bool rb) ∧ Below W.heap.size W w' from fun W => by rw [hrb]; exact reserved_any x.d W HX.out.d)
      clear hpv hrow e0 hod hrb hst hok hp c0 c1
      go_enter Tryd.func27, Tryd.ntmps27
      go_upto_region 0 with fail
      refine wp_region_lit ?_
      refine kb_box K.out 35 (.tmp 0) (t3A i) rfl rfl (by rfl) ?_
      intro b1 w1 hb1 hk
      have K1 := Lib.hid (show Kb w [(b1, t3A i, 35)] w1 from hk)
      clear hk hb1
      (try simp only [Act.put, gA, gS, gZ, sA, sZ, sS])
      refine kb_box K1.out 42 (.tmp 3) (fA x) rfl rfl (by rfl) ?_
      intro b2 w2 hb2 hk
      have K2 := Lib.hid (show Kb w [(b1, t3A i, 35), (b2, fA x, 42)] w2 from hk)
      clear hk hb2
      (try simp only [Act.put, gA, gS, gZ, sA, sZ, sS])
      refine wv (.int .u16 0) ?_
      (try simp only [Act.put, gA, gS, gZ, sA, sZ, sS])
      refine wv (.int .i64 0) ?_
      (try simp only [Act.put, gA, gS, gZ, sA, sZ, sS])
      refine wpList_nil ?_
      go_upto_region 1 with fail
      refine wp_region_lit ?_
      refine wv (.int .i64 ((k : Int) + 1)) ?_
      (try simp only [Act.put, gA, gS, gZ, sA, sZ, sS])
      refine wv (.bool false) ?_ (hrun := by go_simp; omega)
      (try simp only [Act.put, gA, gS, gZ, sA, sZ, sS])
      refine wv (.bool false) ?_
      (try simp only [Act.put, gA, gS, gZ, sA, sZ, sS])
      refine wv (.int .i64 ((k : Int) + 1)) ?_
      (try simp only [Act.put, gA, gS, gZ, sA, sZ, sS])
      refine wv (.slice (some ⟨g, 0, none⟩) n m) ?_
      (try simp only [Act.put, gA, gS, gZ, sA, sZ, sS])
      refine wv (.int .i64 (n : Nat)) ?_
      (try simp only [Act.put, gA, gS, gZ, sA, sZ, sS])
      refine wv (.bool false) ?_ (hrun := by go_simp; omega)
      (try simp only [Act.put, gA, gS, gZ, sA, sZ, sS])
      refine wv (.bool false) ?_ (hrun := run_pick_no (.tmp 15) (.const (.bool true)) (.tmp 19) _ rfl rfl rfl)
      (try simp only [Act.put, gA, gS, gZ, sA, sZ, sS])
      refine wpList_nil ?_
      go_upto_region 3 with fail
      refine wp_region_lit ?_
      refine wv (.slice (some ⟨g, 0, none⟩) n m) ?_
      (try simp only [Act.put, gA, gS, gZ, sA, sZ, sS])
      refine wv (.int .i64 ((k : Int) + 1)) ?_
      (try simp only [Act.put, gA, gS, gZ, sA, sZ, sS])
      refine wv (.int .i64 (k : Nat)) ?_ (hrun := by go_simp; exact wr64 c2 c6)
      (try simp only [Act.put, gA, gS, gZ, sA, sZ, sS])
      refine wv (.pointer (some ⟨g, k * 21, none⟩)) ?_
      (try simp only [Act.put, gA, gS, gZ, sA, sZ, sS])
      refine wv (.agg (poA p)) ?_ (hrun := run_loadRange 58 _ rfl g (k * 21) rfl (poA p) _ (HROW.out _ K2.out.below) Tryd.underlying58 rfl (po_info _))
      (try simp only [Act.put, gA, gS, gZ, sA, sZ, sS])
      refine kb_alloc K2.out 58 (nil21) rfl z21 (by rfl) ?_
      intro b3 w3 hb3 hk
      have K3 := Lib.hid (show Kb w [(b1, t3A i, 35), (b2, fA x, 42), (b3, nil21, 58)] w3 from hk)
      clear hk hb3
      (try simp only [Act.put, gA, gS, gZ, sA, sZ, sS])
      refine kb_row K3.out 2 rfl 58 _ _ (poA p) rfl rfl rfl rfl (po_info _) (by rfl) (po_all p) ?_
      intro w4 hk
      have K4 := Lib.hid (show Kb w [(b1, t3A i, 35), (b2, fA x, 42), (b3, poA p, 58)] w4 from hk)
      clear hk
      (try simp only [Act.put, gA, gS, gZ, sA, sZ, sS])
      refine wpList_nil ?_
      cases od with
      | false =>
        have hr0 : r = (0, 6) := by rw [HR.out, HE.out, if_pos HOD.out.symm]
        have HE2 := Lib.hid hr0
        clear hr0
        go_upto_region 4 with fail
        refine wp_region_lit ?_
        refine wv (.agg (poA p)) ?_ (hrun := kb_all K4.out 2 rfl 58 _ rfl rfl Tryd.underlying58 rfl (po_info _))
        (try simp only [Act.put, gA, gS, gZ, sA, sZ, sS])
        refine kb_call K4.out 9 #[.agg (poA p)] (.bool false) (by rfl) (by go_simp) (HON.out _) ?_
        intro w5 hk
        have K5 := Lib.hid (show Kb w [(b1, t3A i, 35), (b2, fA x, 42), (b3, poA p, 58)] w5 from hk)
        clear hk
        (try simp only [Act.put, gA, gS, gZ, sA, sZ, sS])
        refine wv (.bool true) ?_
        (try simp only [Act.put, gA, gS, gZ, sA, sZ, sS])
        refine wv (.bool true) ?_
        (try simp only [Act.put, gA, gS, gZ, sA, sZ, sS])
        refine wpList_skip (by kernel_rfl) ?_
        (try simp only [Act.put, gA, gS, gZ, sA, sZ, sS])
        refine wpList_skip (by kernel_rfl) ?_
        (try simp only [Act.put, gA, gS, gZ, sA, sZ, sS])
        refine wpList_skip (by kernel_rfl) ?_
        (try simp only [Act.put, gA, gS, gZ, sA, sZ, sS])
        refine wv (.bool true) ?_ (hrun := run_pick_yes (.tmp 30) (.const (.bool true)) (.tmp 33) _ rfl rfl rfl)
        (try simp only [Act.put, gA, gS, gZ, sA, sZ, sS])
        refine wv (.bool true) ?_
        (try simp only [Act.put, gA, gS, gZ, sA, sZ, sS])
        refine wpList_nil ?_
        go_wp2_with fail
        go_ret2
        refine ⟨?_, K5.out.below⟩
        rw [HE2.out]; rfl
      | true =>
        have e1 : (if onP p = false then ((0, 6) : Nat × Int) else if p.p11 = 0 then (0, 6) else if resB x.d = true then (0, 2) else (ingV (vidM p x) (ingM lv p ((k : Int) + 1) x), whyN (ingM lv p ((k : Int) + 1) x))) = if p.p11 = 0 then (0, 6) else if resB x.d = true then (0, 2) else (ingV (vidM p x) (ingM lv p ((k : Int) + 1) x), whyN (ingM lv p ((k : Int) + 1) x)) := if_neg (by rw [← HOD.out]; decide)
        have HE1 := Lib.hid (HE.out.trans e1)
        clear e1
        by_cases c4 : p.p11 = 0
        · have HE2 := Lib.hid (show r = (0, 6) by rw [HR.out, HE1.out, if_pos c4])
          have HC4 := Lib.hid c4
          clear c4
          go_upto_region 4 with fail
          refine wp_region_lit ?_
          refine wv (.agg (poA p)) ?_ (hrun := kb_all K4.out 2 rfl 58 _ rfl rfl Tryd.underlying58 rfl (po_info _))
          (try simp only [Act.put, gA, gS, gZ, sA, sZ, sS])
          refine kb_call K4.out 9 #[.agg (poA p)] (.bool true) (by rfl) (by go_simp) (HON.out _) ?_
          intro w5 hk
          have K5 := Lib.hid (show Kb w [(b1, t3A i, 35), (b2, fA x, 42), (b3, poA p, 58)] w5 from hk)
          clear hk
          (try simp only [Act.put, gA, gS, gZ, sA, sZ, sS])
          refine wv (.bool false) ?_
          (try simp only [Act.put, gA, gS, gZ, sA, sZ, sS])
          refine wv (.bool false) ?_
          (try simp only [Act.put, gA, gS, gZ, sA, sZ, sS])
          refine wv (.pointer (some ⟨b3, 11, none⟩)) ?_
          (try simp only [Act.put, gA, gS, gZ, sA, sZ, sS])
          refine wv (.int .i64 p.p11) ?_ (hrun := by have q : w5.cell? ⟨b3, 11, none⟩ = some (.int .i64 p.p11) := K5.out.cell (i := 2) rfl (by rfl); go_simp)
          (try simp only [Act.put, gA, gS, gZ, sA, sZ, sS])
          refine wv (.bool true) ?_ (hrun := by have q := HC4.out; go_simp)
          (try simp only [Act.put, gA, gS, gZ, sA, sZ, sS])
          refine wv (.bool true) ?_ (hrun := run_pick_no (.tmp 30) (.const (.bool true)) (.tmp 33) _ rfl rfl rfl)
          (try simp only [Act.put, gA, gS, gZ, sA, sZ, sS])
          refine wv (.bool true) ?_
          (try simp only [Act.put, gA, gS, gZ, sA, sZ, sS])
          refine wpList_nil ?_
          go_wp2_with fail
          go_ret2
          refine ⟨?_, K5.out.below⟩
          rw [HE2.out]; rfl
        · have HE2 := Lib.hid (HE1.out.trans (if_neg c4))
          have HC4 := Lib.hid (show decide (p.p11 = 0) = false from decide_eq_false c4)
          have HC5 := Lib.hid (show (p.p11 == 0) = false by simpa using c4)
          clear c4
          go_upto_region 4 with fail
          refine wp_region_lit ?_
          refine wv (.agg (poA p)) ?_ (hrun := kb_all K4.out 2 rfl 58 _ rfl rfl Tryd.underlying58 rfl (po_info _))
          (try simp only [Act.put, gA, gS, gZ, sA, sZ, sS])
          refine kb_call K4.out 9 #[.agg (poA p)] (.bool true) (by rfl) (by go_simp) (HON.out _) ?_
          intro w5 hk
          have K5 := Lib.hid (show Kb w [(b1, t3A i, 35), (b2, fA x, 42), (b3, poA p, 58)] w5 from hk)
          clear hk
          (try simp only [Act.put, gA, gS, gZ, sA, sZ, sS])
          refine wv (.bool false) ?_
          (try simp only [Act.put, gA, gS, gZ, sA, sZ, sS])
          refine wv (.bool false) ?_
          (try simp only [Act.put, gA, gS, gZ, sA, sZ, sS])
          refine wv (.pointer (some ⟨b3, 11, none⟩)) ?_
          (try simp only [Act.put, gA, gS, gZ, sA, sZ, sS])
          refine wv (.int .i64 p.p11) ?_ (hrun := by have q : w5.cell? ⟨b3, 11, none⟩ = some (.int .i64 p.p11) := K5.out.cell (i := 2) rfl (by rfl); go_simp)
          (try simp only [Act.put, gA, gS, gZ, sA, sZ, sS])
          refine wv (.bool false) ?_ (hrun := by have q := HC4.out; have q2 := HC5.out; go_simp)
          (try simp only [Act.put, gA, gS, gZ, sA, sZ, sS])
          refine wv (.bool false) ?_ (hrun := run_pick_no (.tmp 30) (.const (.bool true)) (.tmp 33) _ rfl rfl rfl)
          (try simp only [Act.put, gA, gS, gZ, sA, sZ, sS])
          refine wv (.bool false) ?_
          (try simp only [Act.put, gA, gS, gZ, sA, sZ, sS])
          refine wpList_nil ?_
          go_upto_region 6 with fail
          cases rb with
          | true =>
            have HE3 := Lib.hid (show r = (0, 2) by rw [HR.out, HE2.out, if_pos HRB.out.symm])
            refine wp_region_lit ?_
            refine wv (.pointer (some ⟨b2, 0, none⟩)) ?_
            (try simp only [Act.put, gA, gS, gZ, sA, sZ, sS])
            refine wv (.agg (macA x.d)) ?_ (hrun := kb_part K5.out 1 rfl 40 _ 0 (macA x.d).toList rfl rfl (part_of (by kernel_rfl)) Tryd.underlying40 rfl (mcSize))
            (try simp only [Act.put, gA, gS, gZ, sA, sZ, sS])
            refine kb_call K5.out 10 #[.agg (macA x.d)] (.bool true) (by rfl) (by go_simp) (HRE.out _) ?_
            intro w6 hk
            have K6 := Lib.hid (show Kb w [(b1, t3A i, 35), (b2, fA x, 42), (b3, poA p, 58)] w6 from hk)
            clear hk
            (try simp only [Act.put, gA, gS, gZ, sA, sZ, sS])
            refine wv (.bool true) ?_
            (try simp only [Act.put, gA, gS, gZ, sA, sZ, sS])
            refine wpList_nil ?_
            go_wp2_with fail
            go_ret2
            refine ⟨?_, K6.out.below⟩
            rw [HE3.out]; rfl
          | false =>
            have HE3 := Lib.hid (show r = (ingV (vidM p x) (ingM lv p ((k : Int) + 1) x), whyN (ingM lv p ((k : Int) + 1) x)) by rw [HR.out, HE2.out, if_neg (by rw [← HRB.out]; decide)])
            refine wp_region_lit ?_
            refine wv (.pointer (some ⟨b2, 0, none⟩)) ?_
            (try simp only [Act.put, gA, gS, gZ, sA, sZ, sS])
            refine wv (.agg (macA x.d)) ?_ (hrun := kb_part K5.out 1 rfl 40 _ 0 (macA x.d).toList rfl rfl (part_of (by kernel_rfl)) Tryd.underlying40 rfl (mcSize))
            (try simp only [Act.put, gA, gS, gZ, sA, sZ, sS])
            refine kb_call K5.out 10 #[.agg (macA x.d)] (.bool false) (by rfl) (by go_simp) (HRE.out _) ?_
            intro w6 hk
            have K6 := Lib.hid (show Kb w [(b1, t3A i, 35), (b2, fA x, 42), (b3, poA p, 58)] w6 from hk)
            clear hk
            (try simp only [Act.put, gA, gS, gZ, sA, sZ, sS])
            refine wv (.bool false) ?_
            (try simp only [Act.put, gA, gS, gZ, sA, sZ, sS])
            refine wpList_nil ?_
            obtain ⟨vv, hvv⟩ : ∃ vv, vv = ingV (vidM p x) (ingM lv p ((k : Int) + 1) x) := ⟨_, rfl⟩
            obtain ⟨c, hc⟩ : ∃ c, c = ingM lv p ((k : Int) + 1) x := ⟨_, rfl⟩
            have HCC := Lib.hid (show c = 0 ∨ c = 1 ∨ c = 2 ∨ c = 3 by rw [hc]; exact ing_case _ _ _ _)
            have HE4 := Lib.hid (show r = (vv, whyN c) by rw [HE3.out, hvv, hc])
            have HIN := Lib.hid (show ∀ W, Below w.heap.size w W → Calls Tryd.prog 11 #[.agg #[.int .u16 p.p0, .int .i64 p.p1, .bool p.p2], .int .i64 ((k : Int) + 1), .agg (fA x), .pointer (some ⟨i.b1, 0, none⟩)] W fun e w' => e = .returned (.tuple #[.int .u16 (vv : Nat), .int .i64 c]) ∧ Below W.heap.size W w' from fun W hW => by rw [hvv, hc, HPV.out]; exact ing_any (HT.out.next hW) p pv HPV.out _ x)
            clear hvv hc
            go_upto_region 8 with fail
            refine wp_region_lit ?_
            refine wv (.pointer (some ⟨b3, 0, none⟩)) ?_
            (try simp only [Act.put, gA, gS, gZ, sA, sZ, sS])
            refine wv (.agg (#[.int .u16 p.p0, .int .i64 p.p1, .bool p.p2])) ?_ (hrun := kb_part K6.out 2 rfl 51 _ 0 (#[.int .u16 p.p0, .int .i64 p.p1, .bool p.p2]).toList rfl rfl (part_of (by kernel_rfl)) Tryd.underlying51 rfl (pgSize))
            (try simp only [Act.put, gA, gS, gZ, sA, sZ, sS])
            refine wv (.int .i64 ((k : Int) + 1)) ?_
            (try simp only [Act.put, gA, gS, gZ, sA, sZ, sS])
            refine wv (.agg (fA x)) ?_ (hrun := kb_all K6.out 1 rfl 42 _ rfl rfl Tryd.underlying42 rfl (fA_size _))
            (try simp only [Act.put, gA, gS, gZ, sA, sZ, sS])
            refine wv (.pointer (some ⟨b1, 0, none⟩)) ?_
            (try simp only [Act.put, gA, gS, gZ, sA, sZ, sS])
            refine wv (.pointer (some ⟨i.b1, 0, none⟩)) ?_ (hrun := by have q : w6.cell? ⟨b1, 0, none⟩ = some (.pointer (some ⟨i.b1, 0, none⟩)) := K6.out.cell (i := 0) rfl (by rfl); go_simp)
            (try simp only [Act.put, gA, gS, gZ, sA, sZ, sS])
            refine kb_call K6.out 11 #[.agg (#[.int .u16 p.p0, .int .i64 p.p1, .bool p.p2]), .int .i64 ((k : Int) + 1), .agg (fA x), .pointer (some ⟨i.b1, 0, none⟩)] (.tuple #[.int .u16 (vv : Nat), .int .i64 c]) (by rfl) (by go_simp) (HIN.out _ K6.out.below) ?_
            intro w7 hk
            have K7 := Lib.hid (show Kb w [(b1, t3A i, 35), (b2, fA x, 42), (b3, poA p, 58)] w7 from hk)
            clear hk
            (try simp only [Act.put, gA, gS, gZ, sA, sZ, sS])
            refine wv (.tuple #[.int .u16 (vv : Nat), .int .i64 c]) ?_
            (try simp only [Act.put, gA, gS, gZ, sA, sZ, sS])
            refine wv (.int .u16 (vv : Nat)) ?_
            (try simp only [Act.put, gA, gS, gZ, sA, sZ, sS])
            refine wv (.int .i64 c) ?_
            (try simp only [Act.put, gA, gS, gZ, sA, sZ, sS])
            refine wv (.int .u16 (vv : Nat)) ?_
            (try simp only [Act.put, gA, gS, gZ, sA, sZ, sS])
            refine wv (.int .i64 c) ?_
            (try simp only [Act.put, gA, gS, gZ, sA, sZ, sS])
            refine wpList_nil ?_
            go_upto_region 9 with fail
            have HWC := Lib.hid (HW.out.next K7.out.below HW.out.lt)
            have z0 : w7.cell? ⟨0, 0, none⟩ = some (.int .i64 7) := by rw [HWC.out.cell]; rfl
            have z1 : w7.cell? ⟨0, 1, none⟩ = some (.int .i64 3) := by rw [HWC.out.cell]; rfl
            have z2 : w7.cell? ⟨0, 2, none⟩ = some (.int .i64 4) := by rw [HWC.out.cell]; rfl
            have z3 : w7.cell? ⟨0, 3, none⟩ = some (.int .i64 5) := by rw [HWC.out.cell]; rfl
            rcases HCC.out with rfl | rfl | rfl | rfl
            all_goals
              go_region
              go_wp2_with fail
              go_ret2
              refine ⟨?_, K7.out.below.drew⟩
              rw [HE4.out]
              rfl
end
end Go.Proofs.YtelohoomlgjjmaaDoor
