/- ClassifyOpen's walk. -/
import Derived.Test.YtpjfpcebjneblaaSp11
import Derived.Test.YtpjfpcebjneblaaBld
namespace Go.Proofs.Ytpjfpcebjneblaa
open Go.RowKit
attribute [local irreducible] wpQuiet
set_option linter.unusedSimpArgs false
set_option linter.unusedVariables false

theorem wrap_u16 (x : Int) (h : 0 ≤ x) (h2 : x ≤ 65535) : IntKind.u16.wrap x = x := by
  simp [IntKind.wrap, IntKind.bits, IntKind.signed]
  try omega
theorem vid_wrap (x : Nat) : IntKind.u16.wrap (1 + (x : Int).tmod 4094) = ((1 + x % 4094 : Nat) : Int) := by
  rw [Int.tmod_eq_emod_of_nonneg (by omega), wrap_u16 _ (by omega) (by omega)]
  omega
theorem nil18_one : nil18.all (·.oneCell') = true := by simp [Value.oneCell']
/-- A frame of a tag alone. -/
abbrev tagA (tg : Bool) (vi : Nat) : Array Value := frA (fun _ => 0) (fun _ => 0) tg 0 false vi 0 ⟨#[]⟩
theorem built_tag (tg : Bool) : Try.prog.built 46 [(2, .bool tg)] = some (tagA tg 0) := by cases tg <;> kernel_rfl
theorem zero46 (W : World) : (zeroValue 46).run Try.prog W = .ok (.agg nil18) W := by kernel_rfl
theorem good_one {vid m : Nat} (h1 : 1 ≤ vid) (h2 : vid ≤ 4094) (hm : m < 65536) : goodV ⟨vid, m, 0⟩ = 0 := by
  unfold goodV
  simp only
  rw [if_neg (by omega), if_neg (by omega)]
  have : subB m 0 = true := by unfold subB; simp
  rw [if_pos this]
theorem set_one {x : Vl} (h : goodV x = 0) : setV [] x = [x] ∧ setVE [] x = 0 := by
  unfold setV setVE
  simp [h, atV, posV]
theorem vidN_lt (x : Nat) : 1 + x % 4094 < 65536 := by omega
set_option maxRecDepth 100000 in
set_option maxHeartbeats 8000000 in
theorem open_walk (x0 x1 : Nat) (no : Int) (tagged : Bool) (hx0 : x0 < 65536) (hx1 : x1 < 65536) (w : World) : Calls Try.prog 4 #[.agg #[.int .u16 (x0 : Nat), .int .u16 (x1 : Nat)], .int .i64 no, .bool tagged] w fun e w' => e = .returned (.bool true) ∧ Below w.heap.size w w' := by
  obtain ⟨vid, hvid⟩ : ∃ vid, vid = 1 + x0 % 4094 := ⟨_, rfl⟩
  obtain ⟨vid2, hvid2⟩ : ∃ vid2, vid2 = 1 + vid % 4094 := ⟨_, rfl⟩
  have VID := Lib.hid hvid
  have VID2 := Lib.hid hvid2
  have EV := Lib.hid (show 1 + (x0 : Int) % 4094 = (vid : Int) by rw [hvid]; omega)
  have EV2 := Lib.hid (show 1 + (vid : Int) % 4094 = (vid2 : Int) by rw [hvid2]; omega)
  have EX := Lib.hid hx1
  obtain ⟨g, hg⟩ : ∃ g, g = w.heap.size := ⟨_, rfl⟩
  obtain ⟨w1, hw1⟩ : ∃ w1, w1 = w.alloc (.cells #[.int .u16 (x0 : Nat), .int .u16 (x1 : Nat)] 33) := ⟨_, rfl⟩
  have hb1 : Below w.heap.size w w1 := by rw [hw1]; exact (Below.refl w.heap.size w).alloc (Nat.le_refl _) _
  have hk1 : Blk w1 g #[.int .u16 (x0 : Nat), .int .u16 (x1 : Nat)] 33 := by rw [hw1, hg]; exact Blk.new _ _ _
  have HW := Lib.hid hw1
  have HG := Lib.hid hg
  have HB1 := Lib.hid hb1
  have K1 := Lib.hid hk1
  clear hvid hvid2 hg hw1 hb1 hk1 hx0 hx1
  go_enter Try.func4, Try.ntmps4
  go_upto_region 1 with fail
  rw [← HW.out, ← HG.out]
  go_upto_region 3 with (go_at_call 8; refine (speaks11_any w1).mono ?_; rintro e w2 ⟨rfl, hb2⟩)
  have B2 := Lib.hid (HB1.out.trans (hb2.mono HB1.out.size))
  have K2 := Lib.hid (K1.out.below hb2 K1.out.lt)
  clear hb2
  have HC0 := Lib.hid (show ∀ w', Below w2.heap.size w2 w' → w'.cell? ⟨g, 0, none⟩ = some (.int .u16 (x0 : Nat)) from fun w' hb => by rw [(K2.out.below hb K2.out.lt).cell]; rfl)
  have HC1 := Lib.hid (show ∀ w', Below w2.heap.size w2 w' → w'.cell? ⟨g, 1, none⟩ = some (.int .u16 (x1 : Nat)) from fun w' hb => by rw [(K2.out.below hb K2.out.lt).cell]; rfl)
  refine wp_region_quiet (C := Below w2.heap.size w2) (by kernel_rfl) (by kernel_rfl) (Below.refl _ _).drew ?_
  (refine q_val (v := ?_) (by rfl) ?_ ?_; rotate_left; (· (intro w hC; go_simp; try with_reducible rfl)); (try simp only [Act.put, List.getElem_toArray, List.getElem_cons_succ, List.getElem_cons_zero, List.setIfInBounds_toArray, List.set_cons_zero, List.set_cons_succ]))
  (refine q_val (v := ?_) (by rfl) ?_ ?_; rotate_left; (· (intro w hC; have q := HC0.out w hC; go_simp; try with_reducible rfl)); (try simp only [Act.put, List.getElem_toArray, List.getElem_cons_succ, List.getElem_cons_zero, List.setIfInBounds_toArray, List.set_cons_zero, List.set_cons_succ]))
  (refine q_val (v := ?_) (by rfl) ?_ ?_; rotate_left; (· (intro w hC; go_simp; try with_reducible rfl)); (try simp only [Act.put, List.getElem_toArray, List.getElem_cons_succ, List.getElem_cons_zero, List.setIfInBounds_toArray, List.set_cons_zero, List.set_cons_succ]))
  (refine q_val (v := ?_) (by rfl) ?_ ?_; rotate_left; (· (intro w hC; go_simp; try with_reducible rfl)); (try simp only [Act.put, List.getElem_toArray, List.getElem_cons_succ, List.getElem_cons_zero, List.setIfInBounds_toArray, List.set_cons_zero, List.set_cons_succ]))
  (refine q_val (v := ?_) (by rfl) ?_ ?_; rotate_left; (· (intro w hC; go_simp; try with_reducible rfl)); (try simp only [Act.put, List.getElem_toArray, List.getElem_cons_succ, List.getElem_cons_zero, List.setIfInBounds_toArray, List.set_cons_zero, List.set_cons_succ]))
  (refine q_val (v := ?_) (by rfl) ?_ ?_; rotate_left; (· (intro w hC; have q := HC1.out w hC; go_simp; try with_reducible rfl)); (try simp only [Act.put, List.getElem_toArray, List.getElem_cons_succ, List.getElem_cons_zero, List.setIfInBounds_toArray, List.set_cons_zero, List.set_cons_succ]))
  (refine q_val (v := ?_) (by rfl) ?_ ?_; rotate_left; (· (intro w hC; go_simp; try with_reducible rfl)); (try simp only [Act.put, List.getElem_toArray, List.getElem_cons_succ, List.getElem_cons_zero, List.setIfInBounds_toArray, List.set_cons_zero, List.set_cons_succ]))
  (refine q_val (v := ?_) (by rfl) ?_ ?_; rotate_left; (· (intro w hC; go_simp; try with_reducible rfl)); (try simp only [Act.put, List.getElem_toArray, List.getElem_cons_succ, List.getElem_cons_zero, List.setIfInBounds_toArray, List.set_cons_zero, List.set_cons_succ]))
  refine wpQuiet_nil ?_
  intro w5 hC5
  have K5 := Lib.hid hC5
  clear hC5
  rw [show IntKind.u16.wrap (1 + (x0 : Int).tmod 4094) = (vid : Int) by rw [vid_wrap, ← VID.out]]
  go_upto_region 5 with (go_at_call 9; refine (new_tm _).mono ?_; rintro e w6 ⟨b, rfl, ht, hb6⟩)
  have B5 := Lib.hid (B2.out.trans (K5.out.mono B2.out.size))
  have O6 := Lib.hid (OneV.start B5.out ht hb6)
  generalize w5.heap.size = A at O6
  generalize w6.heap.size = B at O6
  have GV := Lib.hid (good_one (m := x1) (show 1 ≤ vid by rw [VID.out]; omega) (by rw [VID.out]; omega) EX.out)
  have HS := Lib.hid (show Calls Try.prog 10 #[.pointer (some ⟨b, 0, none⟩), .agg #[.int .u16 (vid : Nat), .int .u32 (x1 : Nat), .int .u32 0]] w6 fun e w' => e = .returned (.int .i64 0) ∧ OneV w b A B [⟨vid, x1, 0⟩] w' from
    (set_tm ⟨vid, x1, 0⟩ O6.out.tab O6.out.low.2.1 O6.out.low.2.2).mono fun e w' ⟨h1, h2, h3⟩ => ⟨by rw [h1, (set_one GV.out).2], O6.out.after (by rw [← (set_one GV.out).1]; exact h2) h3⟩)
  clear ht hb6
  have ec : (x1 : Int) % 4294967296 = (x1 : Int) := by have := EX.out; omega
  go_upto_region 7 with (go_at_call 10; with_reducible refine HS.out.mono ?_; rintro e w7 ⟨rfl, hO7⟩)
  clear ec
  have O7 := Lib.hid hO7
  clear hO7
  have HI : ∀ (W : World), OneV w b A B [⟨vid, x1, 0⟩] W → ∀ (pv : Nat) (fi : Bool) (arr : Array Value) (tg : Bool) (vi : Nat), arr[12]? = some (.bool tg) → arr[15]? = some (.int .u16 (vi : Nat)) → arr.size = 18 → (if ownB tg vi then vi else pv) = vid →
      ∀ (v c : Int), ((ingV vid (ingC 0 fi (ownB tg vi) true (hasB x1 no)) : Nat) : Int) = v → ingC 0 fi (ownB tg vi) true (hasB x1 no) = c →
      Calls Try.prog 14 #[.agg #[.int .u16 (pv : Nat), .int .i64 0, .bool fi], .int .i64 no, .agg arr, .pointer (some ⟨b, 0, none⟩)] W fun e w' => e = .returned (.tuple #[.int .u16 v, .int .i64 c]) ∧ OneV w b A B [⟨vid, x1, 0⟩] w' ∧ Below W.heap.size W w' := fun W hO pv fi arr tg vi a12 a15 hsz hv v c hvv hcc => by
    subst hvv
    subst hcc
    have := ingress_any pv 0 fi no arr tg vi a12 a15 hsz (.pointer (some ⟨b, 0, none⟩)) ⟨vid, x1, 0⟩ (Nat.lt_trans EX.out (by decide)) true W (fun W' hb => by
      rw [hv]
      exact (get_find vid (hO.next hb).tab).mono fun e w' ⟨h1, h2⟩ => ⟨by rw [h1, findV_one ⟨vid, x1, 0⟩], h2⟩)
    rw [hv] at this
    exact this.mono fun e w' ⟨h1, h2⟩ => ⟨h1, hO.next h2, h2⟩
  have HIh := Lib.hid HI
  have SZ := Lib.hid size52
  clear HI
  have HASC := Lib.hid (show ∀ W : World, Calls Try.prog 13 #[.int .u32 (x1 : Nat), .int .i64 no] W fun e w' => e = .returned (.bool (hasB x1 no)) ∧ W = w' from fun W => has_any x1 no W (Nat.lt_trans EX.out (by decide)))
  obtain ⟨arr, harr⟩ : ∃ arr, arr = tagA tagged 0 := ⟨_, rfl⟩
  obtain ⟨f, hf⟩ : ∃ f, f = w7.heap.size := ⟨_, rfl⟩
  have R7 := Lib.hid (Blk.new w7 nil18 46)
  have SZ7 := Lib.hid (show (Try.prog.info? 46).map (·.size) = some arr.size by rw [harr]; exact size52)
  have ONE7 := Lib.hid (show arr.all (·.oneCell') = true by rw [harr]; exact frA_one _ _ _ _ _ _ _ _)
  have ARR := Lib.hid harr
  have HF := Lib.hid hf
  rw [← hf] at R7
  clear harr hf
  refine wp_region_lit ?_
  refine wpList_val (.bool tagged) (by rfl) (by go_simp) ?_
  (try simp only [Act.put, List.getElem_toArray, List.getElem_cons_succ, List.getElem_cons_zero, List.setIfInBounds_toArray, List.set_cons_zero, List.set_cons_succ])
  refine wpList_val (.agg arr) (by rfl) (run_build_of 46 [(2, .tmp 32)] rfl [(2, .bool tagged)] arr rfl (by rw [ARR.out]; exact built_tag tagged)) ?_
  (try simp only [Act.put, List.getElem_toArray, List.getElem_cons_succ, List.getElem_cons_zero, List.setIfInBounds_toArray, List.set_cons_zero, List.set_cons_succ])
  refine wpList_alloc 46 rfl (by rfl) nil18 zero46 ?_
  rw [← HF.out]
  (try simp only [Act.put, List.getElem_toArray, List.getElem_cons_succ, List.getElem_cons_zero, List.setIfInBounds_toArray, List.set_cons_zero, List.set_cons_succ])
  refine wpList_store_row rfl 46 _ _ rfl f arr rfl rfl 46 nil18 R7.out SZ7.out (by rw [ARR.out]; rfl) ONE7.out ?_
  (try simp only [Act.put, List.getElem_toArray, List.getElem_cons_succ, List.getElem_cons_zero, List.setIfInBounds_toArray, List.set_cons_zero, List.set_cons_succ])
  refine wpList_nil ?_
  obtain ⟨w8, hw8⟩ : ∃ w8, w8 = (w7.alloc (.cells nil18 46)).setRow f arr := ⟨_, rfl⟩
  have K8 := Lib.hid (show Blk w8 f arr 46 by rw [hw8]; exact R7.out.row arr)
  have HB8 := Lib.hid (show Below w7.heap.size w7 w8 by rw [hw8]; exact below_setRow ((Below.refl _ _).alloc (Nat.le_refl _) _) (by rw [HF.out]; exact Nat.le_refl _) arr)
  rw [← hw8]
  clear hw8
  have O8 := Lib.hid (O7.out.next HB8.out)
  have A12 := Lib.hid (show arr[12]? = some (.bool tagged) by rw [ARR.out]; rfl)
  have A15 := Lib.hid (show arr[15]? = some (.int .u16 ((0 : Nat) : Int)) by rw [ARR.out]; rfl)
  have ASZ := Lib.hid (show arr.size = 18 by rw [ARR.out]; rfl)
  clear R7 ONE7
  go_upto_region 9 with fail
  obtain ⟨w9, hw9⟩ : ∃ w9, w9 = w8.alloc (.cells #[.int .u16 (vid : Nat), .int .i64 0, .bool false] 30) := ⟨_, rfl⟩
  obtain ⟨p, hp⟩ : ∃ p, p = w8.heap.size := ⟨_, rfl⟩
  have hb9 : Below w8.heap.size w8 w9 := by rw [hw9]; exact (Below.refl _ _).alloc (Nat.le_refl _) _
  have K9 := Lib.hid (show Blk w9 p #[.int .u16 (vid : Nat), .int .i64 0, .bool false] 30 by rw [hw9, hp]; exact Blk.new _ _ _)
  have F9 := Lib.hid (K8.out.below hb9 K8.out.lt)
  have O9 := Lib.hid (O8.out.next hb9)
  have PB := Lib.hid (show B ≤ p by rw [hp]; have := O8.out.low; omega)
  have FB := Lib.hid (show B ≤ f by rw [HF.out]; have := O7.out.low; omega)
  have FP := Lib.hid (show f ≠ p by rw [hp]; have := K8.out.lt; omega)
  rw [← hw9, ← hp]
  clear hw9 hp hb9 O8 K8 HB8
  obtain ⟨has, hhas⟩ : ∃ has, hasB x1 no = has := ⟨_, rfl⟩
  rw [hhas] at HIh HASC
  clear hhas
  cases tagged with
  | false =>
    go_upto_region 12 with fail
    have k9 := K9.out
    have d0 : w9.cell? ⟨p, 0, none⟩ = some (.int .u16 (vid : Nat)) := k9.cell 0
    have d1 : w9.cell? ⟨p, 1, none⟩ = some (.int .i64 0) := k9.cell 1
    have d2 : w9.cell? ⟨p, 2, none⟩ = some (.bool false) := k9.cell 2
    clear k9
    have HI1 := Lib.hid (HIh.out w9 O9.out vid false arr false 0 A12.out A15.out ASZ.out rfl (vid : Int) 0 (by simp [ingV, ingC, accB, ownB]) (by simp [ingC, accB, ownB]))
    go_upto_region 13 with (first
      | (refine wpList_val (.agg arr) (by rfl) (run_loadVar_of 46 _ rfl f rfl 46 arr _ F9.out Try.underlying46 rfl SZ7.out) ?_)
      | (go_at_call 14; with_reducible refine HI1.out.mono ?_; rintro e w10 ⟨rfl, hO10, hb10⟩))
    have O10 := Lib.hid hO10
    have K10 := Lib.hid (K9.out.below hb10 K9.out.lt)
    have F10 := Lib.hid (F9.out.below hb10 F9.out.lt)
    clear hO10 hb10 d0 d1 d2
    have d2 : w10.cell? ⟨p, 2, none⟩ = some (.bool false) := K10.out.cell 2
    have fr2 : w10.frozen? ⟨p, 2, none⟩ = false := K10.out.free 2
    go_upto_region 14 with fail
    obtain ⟨w11, hw11⟩ : ∃ w11, w11 = w10.setCell ⟨p, 2, none⟩ (.bool true) := ⟨_, rfl⟩
    have K11 := Lib.hid (show Blk w11 p #[.int .u16 (vid : Nat), .int .i64 0, .bool true] 30 by rw [hw11]; exact K10.out.set 2 (.bool true))
    have F11 := Lib.hid (show Blk w11 f arr 46 by rw [hw11]; exact F10.out.other (a := ⟨p, 2, none⟩) (fun e => FP.out e.symm) _)
    have O11 := Lib.hid (show OneV w b A B [⟨vid, x1, 0⟩] w11 by rw [hw11]; exact O10.out.setCell (a := ⟨p, 2, none⟩) (by have := PB.out; simpa using this) _)
    rw [← hw11]
    clear hw11 d2 fr2
    have k9 := K11.out
    have d0 : w11.cell? ⟨p, 0, none⟩ = some (.int .u16 (vid : Nat)) := k9.cell 0
    have d1 : w11.cell? ⟨p, 1, none⟩ = some (.int .i64 0) := k9.cell 1
    have d2 : w11.cell? ⟨p, 2, none⟩ = some (.bool true) := k9.cell 2
    clear k9
    cases has with
    | false =>
      have HI2 := Lib.hid (HIh.out w11 O11.out vid true arr false 0 A12.out A15.out ASZ.out rfl 0 3 (by simp [ingV, ingC, accB, ownB]) (by simp [ingC, accB, ownB]))
      go_upto_region 15 with (first
        | (refine wpList_val (.agg arr) (by rfl) (run_loadVar_of 46 _ rfl f rfl 46 arr _ F11.out Try.underlying46 rfl SZ7.out) ?_)
        | (go_at_call 14; with_reducible refine HI2.out.mono ?_; rintro e w12 ⟨rfl, hO12, hb12⟩))
      have B12 := Lib.hid hO12.below
      have ec : (x1 : Int) % 4294967296 = (x1 : Int) := by have := EX.out; omega
      clear d0 d1 d2 hO12 hb12
      go_wp2_with (go_at_call 13; with_reducible refine (HASC.out w12).mono ?_; rintro e w13 ⟨rfl, rfl⟩)
      go_ret
      exact ⟨rfl, B12.out⟩
    | true =>
      have HI2 := Lib.hid (HIh.out w11 O11.out vid true arr false 0 A12.out A15.out ASZ.out rfl (vid : Int) 0 (by simp [ingV, ingC, accB, ownB]) (by simp [ingC, accB, ownB]))
      go_upto_region 15 with (first
        | (refine wpList_val (.agg arr) (by rfl) (run_loadVar_of 46 _ rfl f rfl 46 arr _ F11.out Try.underlying46 rfl SZ7.out) ?_)
        | (go_at_call 14; with_reducible refine HI2.out.mono ?_; rintro e w12 ⟨rfl, hO12, hb12⟩))
      have B12 := Lib.hid hO12.below
      have ec : (x1 : Int) % 4294967296 = (x1 : Int) := by have := EX.out; omega
      clear d0 d1 d2 hO12 hb12
      go_wp2_with (go_at_call 13; with_reducible refine (HASC.out w12).mono ?_; rintro e w13 ⟨rfl, rfl⟩)
      go_ret
      exact ⟨rfl, B12.out⟩
  | true =>
    have OWN := Lib.hid (show ownB true vid = true by unfold ownB; rw [decide_eq_true (show vid ≠ 0 by rw [VID.out]; omega)]; rfl)
    obtain ⟨arr2, harr2⟩ : ∃ arr2, arr2 = arr.setIfInBounds 15 (.int .u16 (vid : Nat)) := ⟨_, rfl⟩
    have fr15 : w9.frozen? ⟨f, 15, none⟩ = false := F9.out.free 15
    have d15 : w9.cell? ⟨f, 15, none⟩ = some (.int .u16 0) := by rw [F9.out.cell]; exact A15.out
    have fr0 : w9.frozen? ⟨p, 0, none⟩ = false := K9.out.free 0
    have d0 : w9.cell? ⟨p, 0, none⟩ = some (.int .u16 (vid : Nat)) := K9.out.cell 0
    go_upto_region 12 with fail
    rw [EV2.out]
    obtain ⟨w10a, hw10⟩ : ∃ w10a, w10a = (w9.setCell ⟨f, 15, none⟩ (.int .u16 (vid : Nat))).setCell ⟨p, 0, none⟩ (.int .u16 (vid2 : Nat)) := ⟨_, rfl⟩
    have K10a := Lib.hid (show Blk w10a p #[.int .u16 (vid2 : Nat), .int .i64 0, .bool false] 30 by rw [hw10]; exact (K9.out.other (a := ⟨f, 15, none⟩) FP.out _).set 0 (.int .u16 (vid2 : Nat)))
    have F10a := Lib.hid (show Blk w10a f arr2 46 by rw [hw10, harr2]; exact (F9.out.set 15 (.int .u16 (vid : Nat))).other (a := ⟨p, 0, none⟩) (fun e => FP.out e.symm) _)
    have O10a := Lib.hid (show OneV w b A B [⟨vid, x1, 0⟩] w10a by rw [hw10]; exact (O9.out.setCell (a := ⟨f, 15, none⟩) (by have := FB.out; simpa using this) _).setCell (a := ⟨p, 0, none⟩) (by have := PB.out; simpa using this) _)
    have A12b := Lib.hid (show arr2[12]? = some (.bool true) by rw [harr2, Array.getElem?_setIfInBounds_ne (by omega)]; exact A12.out)
    have A15b := Lib.hid (show arr2[15]? = some (.int .u16 (vid : Nat)) by rw [harr2]; exact Array.getElem?_setIfInBounds_self_of_lt (by rw [ASZ.out]; omega))
    have ASZb := Lib.hid (show arr2.size = 18 by rw [harr2]; simpa using ASZ.out)
    have SZb := Lib.hid (show (Try.prog.info? 46).map (·.size) = some arr2.size by rw [ASZb.out]; exact size52)
    rw [← hw10]
    clear hw10 harr2 d0 d15 fr0 fr15
    have k9 := K10a.out
    have d0 : w10a.cell? ⟨p, 0, none⟩ = some (.int .u16 (vid2 : Nat)) := k9.cell 0
    have d1 : w10a.cell? ⟨p, 1, none⟩ = some (.int .i64 0) := k9.cell 1
    have d2 : w10a.cell? ⟨p, 2, none⟩ = some (.bool false) := k9.cell 2
    clear k9
    have HI1 := Lib.hid (HIh.out w10a O10a.out vid2 false arr2 true vid A12b.out A15b.out ASZb.out (by rw [OWN.out]; rfl) (vid : Int) 0 (by rw [OWN.out]; rfl) (by rw [OWN.out]; rfl))
    go_upto_region 13 with (first
      | (refine wpList_val (.agg arr2) (by rfl) (run_loadVar_of 46 _ rfl f rfl 46 arr2 _ F10a.out Try.underlying46 rfl SZb.out) ?_)
      | (go_at_call 14; with_reducible refine HI1.out.mono ?_; rintro e w10 ⟨rfl, hO10, hb10⟩))
    have O10 := Lib.hid hO10
    have K10 := Lib.hid (K10a.out.below hb10 K10a.out.lt)
    have F10 := Lib.hid (F10a.out.below hb10 F10a.out.lt)
    clear hO10 hb10 d0 d1 d2
    have d2 : w10.cell? ⟨p, 2, none⟩ = some (.bool false) := K10.out.cell 2
    have fr2 : w10.frozen? ⟨p, 2, none⟩ = false := K10.out.free 2
    go_upto_region 14 with fail
    obtain ⟨w11, hw11⟩ : ∃ w11, w11 = w10.setCell ⟨p, 2, none⟩ (.bool true) := ⟨_, rfl⟩
    have K11 := Lib.hid (show Blk w11 p #[.int .u16 (vid2 : Nat), .int .i64 0, .bool true] 30 by rw [hw11]; exact K10.out.set 2 (.bool true))
    have F11 := Lib.hid (show Blk w11 f arr2 46 by rw [hw11]; exact F10.out.other (a := ⟨p, 2, none⟩) (fun e => FP.out e.symm) _)
    have O11 := Lib.hid (show OneV w b A B [⟨vid, x1, 0⟩] w11 by rw [hw11]; exact O10.out.setCell (a := ⟨p, 2, none⟩) (by have := PB.out; simpa using this) _)
    rw [← hw11]
    clear hw11 d2 fr2
    have k9 := K11.out
    have d0 : w11.cell? ⟨p, 0, none⟩ = some (.int .u16 (vid2 : Nat)) := k9.cell 0
    have d1 : w11.cell? ⟨p, 1, none⟩ = some (.int .i64 0) := k9.cell 1
    have d2 : w11.cell? ⟨p, 2, none⟩ = some (.bool true) := k9.cell 2
    clear k9
    cases has with
    | false =>
      have HI2 := Lib.hid (HIh.out w11 O11.out vid2 true arr2 true vid A12b.out A15b.out ASZb.out (by rw [OWN.out]; rfl) 0 3 (by rw [OWN.out]; rfl) (by rw [OWN.out]; rfl))
      go_upto_region 15 with (first
        | (refine wpList_val (.agg arr2) (by rfl) (run_loadVar_of 46 _ rfl f rfl 46 arr2 _ F11.out Try.underlying46 rfl SZb.out) ?_)
        | (go_at_call 14; with_reducible refine HI2.out.mono ?_; rintro e w12 ⟨rfl, hO12, hb12⟩))
      have B12 := Lib.hid hO12.below
      have ec : (x1 : Int) % 4294967296 = (x1 : Int) := by have := EX.out; omega
      clear d0 d1 d2 hO12 hb12
      go_wp2_with (go_at_call 13; with_reducible refine (HASC.out w12).mono ?_; rintro e w13 ⟨rfl, rfl⟩)
      go_ret
      exact ⟨rfl, B12.out⟩
    | true =>
      have HI2 := Lib.hid (HIh.out w11 O11.out vid2 true arr2 true vid A12b.out A15b.out ASZb.out (by rw [OWN.out]; rfl) (vid : Int) 0 (by rw [OWN.out]; rfl) (by rw [OWN.out]; rfl))
      go_upto_region 15 with (first
        | (refine wpList_val (.agg arr2) (by rfl) (run_loadVar_of 46 _ rfl f rfl 46 arr2 _ F11.out Try.underlying46 rfl SZb.out) ?_)
        | (go_at_call 14; with_reducible refine HI2.out.mono ?_; rintro e w12 ⟨rfl, hO12, hb12⟩))
      have B12 := Lib.hid hO12.below
      have ec : (x1 : Int) % 4294967296 = (x1 : Int) := by have := EX.out; omega
      clear d0 d1 d2 hO12 hb12
      go_wp2_with (go_at_call 13; with_reducible refine (HASC.out w12).mono ?_; rintro e w13 ⟨rfl, rfl⟩)
      go_ret
      exact ⟨rfl, B12.out⟩
end Go.Proofs.Ytpjfpcebjneblaa
