/- The first line of layer 11's statements. -/
import Derived.Test.YtpjfpcebjneblaaVt
namespace Go.Proofs.Ytpjfpcebjneblaa
open Go.RowKit
set_option linter.unusedSimpArgs false
set_option linter.unusedVariables false

theorem s11a : ofS [1] = 1 := by decide
theorem s11b : setV [] ⟨7, 1, 0⟩ = [⟨7, 1, 0⟩] := by decide
theorem s11c : setVE [] ⟨7, 1, 0⟩ = 0 := by decide
theorem s11d : findV 7 [⟨7, 1, 0⟩] = (⟨7, 1, 0⟩, true) := by rfl
theorem s11e : ingV 7 (ingC 0 true false true (hasB 1 1)) = 7 := by decide
theorem s11f : ingC 0 true false true (hasB 1 1) = 0 := by decide
theorem s11g : ingV 7 (ingC 0 true false true (hasB 1 2)) = 0 := by decide
theorem s11h : ingC 0 true false true (hasB 1 2) = 3 := by decide

set_option maxRecDepth 100000 in
set_option maxHeartbeats 4000000 in
theorem speaks11_any (w : World) : Calls Try.prog 8 #[] w fun e w' => e = .returned (.bool true) ∧ Below w.heap.size w w' := by
  have i1 := Lib.hid (show ∀ W : World, Calls Try.prog 28 #[.slice (some ⟨W.heap.size, 0, none⟩) 1 1] (W.alloc (.cells #[.int .i64 1] 3)) fun e w' => e = .returned (.int .u32 1) ∧ (W.alloc (.cells #[.int .i64 1] 3)) = w' from fun W => (of_any _ 1 [1] _ (ints_new W [1]) (by simp)).mono fun e w' ⟨h, h2⟩ => ⟨by rw [h, s11a]; rfl, h2⟩)
  go_enter Try.func8, Try.ntmps8
  go_upto_region 2 with (go_at_call 9; refine (new_tm _).mono ?_; rintro e w1 ⟨b, rfl, ht, hb1⟩)
  have O1 := Lib.hid (OneV.start (Below.refl w.heap.size w) ht hb1)
  generalize w.heap.size = A at O1
  generalize w1.heap.size = B at O1
  clear ht hb1
  have O2 := Lib.hid (O1.out.next ((Below.refl _ _).alloc (Nat.le_refl _) (.cells #[.int .i64 1] 3)))
  have HS := Lib.hid (show Calls Try.prog 10 #[.pointer (some ⟨b, 0, none⟩), .agg #[.int .u16 7, .int .u32 1, .int .u32 0]] (w1.alloc (.cells #[.int .i64 1] 3)) fun e w' => e = .returned (.int .i64 0) ∧ OneV w b A B [⟨7, 1, 0⟩] w' from
    (set_tm ⟨7, 1, 0⟩ O2.out.tab O2.out.low.2.1 O2.out.low.2.2).mono fun e w' ⟨h1, h2, h3⟩ => ⟨by rw [h1, s11c], O2.out.after (by rw [← s11b]; exact h2) h3⟩)
  go_upto_region 3 with (first | (go_at_call 28; refine (i1.out _).mono ?_; rintro e w2 ⟨rfl, rfl⟩) | (go_at_call 10; refine HS.out.mono ?_; rintro e w3 ⟨rfl, O3⟩))
  have O3h := Lib.hid O3
  clear O3
  go_upto_region 4 with fail
  have O4 := Lib.hid (O3h.out.next ((Below.refl _ _).alloc (Nat.le_refl _) (.cells #[.int .u16 7, .int .i64 0, .bool true] 30)))
  have K4 := Lib.hid (Blk.new w3 #[.int .u16 7, .int .i64 0, .bool true] 30)
  obtain ⟨p, hp⟩ : ∃ p, p = w3.heap.size := ⟨_, rfl⟩
  obtain ⟨w4, hw4⟩ : ∃ w4, w4 = w3.alloc (.cells #[.int .u16 7, .int .i64 0, .bool true] 30) := ⟨_, rfl⟩
  rw [← hw4, ← hp] at K4
  rw [← hw4] at O4
  rw [← hw4, ← hp]
  clear hp hw4
  have HI : ∀ (W : World), OneV w b A B [⟨7, 1, 0⟩] W → ∀ (no : Int) (v : Int) (c : Int), ((ingV 7 (ingC 0 true false true (hasB 1 no)) : Nat) : Int) = v → ingC 0 true false true (hasB 1 no) = c → Calls Try.prog 14 #[.agg #[.int .u16 7, .int .i64 0, .bool true], .int .i64 no, .agg nil18, .pointer (some ⟨b, 0, none⟩)] W fun e w' => e = .returned (.tuple #[.int .u16 v, .int .i64 c]) ∧ Below W.heap.size W w' := fun W hO no v c hv hc => by
    subst hv
    subst hc
    exact ingress_any 7 0 true no nil18 false 0 rfl rfl rfl (.pointer (some ⟨b, 0, none⟩)) ⟨7, 1, 0⟩ (by decide) true W (fun W' hb => (get_find 7 (hO.next hb).tab).mono fun e w' ⟨h1, h2⟩ => ⟨by rw [h1, s11d], h2⟩)
  have HIh := Lib.hid HI
  clear HI
  have k4 := K4.out
  have d0 : w4.cell? ⟨p, 0, none⟩ = some (.int .u16 7) := k4.cell 0
  have d1 : w4.cell? ⟨p, 1, none⟩ = some (.int .i64 0) := k4.cell 1
  have d2 : w4.cell? ⟨p, 2, none⟩ = some (.bool true) := k4.cell 2
  clear k4
  go_upto_region 5 with (go_at_call 14; refine (HIh.out w4 O4.out 1 7 0 (by decide) (by decide)).mono ?_; rintro e w5 ⟨rfl, hb5⟩)
  have O5 := Lib.hid (O4.out.next hb5)
  have K5 := Lib.hid (K4.out.below hb5 K4.out.lt)
  have k4 := K5.out
  clear d0 d1 d2 hb5
  have d0 : w5.cell? ⟨p, 0, none⟩ = some (.int .u16 7) := k4.cell 0
  have d1 : w5.cell? ⟨p, 1, none⟩ = some (.int .i64 0) := k4.cell 1
  have d2 : w5.cell? ⟨p, 2, none⟩ = some (.bool true) := k4.cell 2
  clear k4
  go_upto_region 6 with (go_at_call 14; refine (HIh.out w5 O5.out 2 0 3 (by decide) (by decide)).mono ?_; rintro e w6 ⟨rfl, hb6⟩)
  have O6 := Lib.hid (O5.out.next hb6)
  have K6 := Lib.hid (K5.out.below hb6 K5.out.lt)
  have k4 := K6.out
  clear d0 d1 d2 hb6
  have d0 : w6.cell? ⟨p, 0, none⟩ = some (.int .u16 7) := k4.cell 0
  have d1 : w6.cell? ⟨p, 1, none⟩ = some (.int .i64 0) := k4.cell 1
  have d2 : w6.cell? ⟨p, 2, none⟩ = some (.bool true) := k4.cell 2
  clear k4
  have HGd := Lib.hid (show Calls Try.prog 11 #[.agg #[.int .u16 7, .int .i64 0, .bool true]] w6 fun e w' => e = .returned (.bool true) ∧ Below w6.heap.size w6 w' from good_port 7 0 true w6)
  go_wp2_with (go_at_call 11; refine HGd.out.mono ?_; rintro e w7 ⟨rfl, hb7⟩; have O7 := Lib.hid (O6.out.next hb7); clear hb7)
  go_ret
  exact ⟨rfl, O7.out.below⟩
end Go.Proofs.Ytpjfpcebjneblaa
