/- What package classify answers: which settings may be; has a frame a VLAN of its own; its VLAN, and what becomes of it. A frame is the same as itself. Ingress: a frame's VLAN, and what becomes of it. The developers' table of VLANs, whose sets are small: what is found in it. Structs that are built, made and stored as opaque rows; with no program in sight. Three tables beside one another. To which ports a frame goes. The first line of layer 12's statements. -/
import Derived.Test.YtpjfpcebjneblaaTab2
import Derived.Test.YtpjfpcebjneblaaFrm
import Derived.Test.YtpjfpcebjneblaaOf
import Derived.Test.YtpjfpcebjneblaaQuietly
import Derived.Test.YtpjfpcebjneblaaEq
import Derived.Test.YtpjfpcebjneblaaBks
import Derived.Test.YtpjfpcebjneblaaSet8
import Derived.Test.YtpjfpcebjneblaaSt1
import Derived.Test.YtpjfpcebjneblaaFb4
section
namespace Go.Proofs.Ytpjfpcebjneblaa
open Go.RowKit
attribute [local irreducible] wpQuiet
set_option linter.unusedSimpArgs false
set_option linter.unusedVariables false

/-- A port's settings. -/
abbrev poA (pv : Nat) (ac : Int) (fi : Bool) : Array Value := #[.int .u16 (pv : Nat), .int .i64 ac, .bool fi]
theorem poSize : (Try.prog.info? 30).map (·.size) = some 3 := by kernel_rfl
theorem po_one (pv : Nat) (ac : Int) (fi : Bool) : (poA pv ac fi).all (·.oneCell') = true := by simp [Value.oneCell']

/-- May they be? -/
def poOk (pv : Nat) (ac : Int) : Bool := decide (1 ≤ pv) && decide (pv ≤ 4094) && decide (0 ≤ ac) && decide (ac ≤ 2)
theorem good_port (pv : Nat) (ac : Int) (fi : Bool) (w : World) : Calls Try.prog 11 #[.agg (poA pv ac fi)] w fun e w' => e = .returned (.bool (poOk pv ac)) ∧ Below w.heap.size w w' := by
  have HB := Lib.hid ((Below.refl w.heap.size w).alloc (Nat.le_refl _) (.cells (poA pv ac fi) 30))
  cases h1 : decide ((1 : Int) ≤ (pv : Int)) with
  | false =>
    have R := Lib.hid (show false = poOk pv ac by unfold poOk; rw [decide_eq_false (show ¬ 1 ≤ pv by have := of_decide_eq_false h1; omega)]; rfl)
    go_enter Try.func11, Try.ntmps11
    go_wp2
    go_ret
    exact ⟨ret_bool R.out, HB.out⟩
  | true =>
    cases h2 : decide ((pv : Int) ≤ 4094) with
    | false =>
      have R := Lib.hid (show false = poOk pv ac by unfold poOk; rw [decide_eq_false (show ¬ pv ≤ 4094 by have := of_decide_eq_false h2; omega), Bool.and_false]; rfl)
      go_enter Try.func11, Try.ntmps11
      go_wp2
      go_ret
      exact ⟨ret_bool R.out, HB.out⟩
    | true =>
      cases h3 : decide (0 ≤ ac) with
      | false =>
        have R := Lib.hid (show false = poOk pv ac by unfold poOk; rw [h3, Bool.and_false]; rfl)
        go_enter Try.func11, Try.ntmps11
        go_wp2
        go_ret
        exact ⟨ret_bool R.out, HB.out⟩
      | true =>
        have R := Lib.hid (show decide (ac ≤ 2) = poOk pv ac by
          unfold poOk
          rw [h3, decide_eq_true (show 1 ≤ pv by have := of_decide_eq_true h1; omega), decide_eq_true (show pv ≤ 4094 by have := of_decide_eq_true h2; omega)]
          rfl)
        go_enter Try.func11, Try.ntmps11
        go_wp2
        go_ret
        exact ⟨ret_bool R.out, HB.out⟩

/-- Has it a VLAN of its own? -/
def ownB (tg : Bool) (vi : Nat) : Bool := tg && decide (vi ≠ 0)
theorem own_any (arr : Array Value) (tg : Bool) (vi : Nat) (a12 : arr[12]? = some (.bool tg)) (a15 : arr[15]? = some (.int .u16 (vi : Nat))) (w : World) :
    Calls Try.prog 32 #[.agg arr] w fun e w' => e = .returned (.bool (ownB tg vi)) ∧ Below w.heap.size w w' := by
  have HB := Lib.hid ((Below.refl w.heap.size w).alloc (Nat.le_refl _) (.cells arr 46))
  have e1 : ((vi : Int) != 0) = decide (vi ≠ 0) := by rw [Bool.eq_iff_iff]; simp
  cases tg with
  | true =>
    have R := Lib.hid (show decide (vi ≠ 0) = ownB true vi from rfl)
    obtain ⟨b, hb⟩ : ∃ b : Bool, decide (vi ≠ 0) = b := ⟨_, rfl⟩
    rw [hb] at e1
    have hbR := Lib.hid hb
    clear hb
    go_enter Try.func32, Try.ntmps32
    go_wp2
    all_goals
      go_ret
      exact ⟨ret_bool (by rw [← R.out, hbR.out]), HB.out⟩
  | false =>
    clear e1
    go_enter Try.func32, Try.ntmps32
    go_wp2
    go_ret
    exact ⟨rfl, HB.out⟩

/-- Does a port take such frames? -/
def accB (ac : Int) (own : Bool) : Bool := if ac = 1 then own else if ac = 2 then !own else true
theorem accepts_any (pv : Nat) (ac : Int) (fi own : Bool) (w : World) : Calls Try.prog 33 #[.agg (poA pv ac fi), .bool own] w fun e w' => e = .returned (.bool (accB ac own)) ∧ Below w.heap.size w w' := by
  have HB := Lib.hid ((Below.refl w.heap.size w).alloc (Nat.le_refl _) (.cells (poA pv ac fi) 30))
  by_cases h1 : ac = 1
  · subst h1
    go_enter Try.func33, Try.ntmps33
    go_wp2
    go_ret
    exact ⟨rfl, HB.out⟩
  · by_cases h2 : ac = 2
    · subst h2
      go_enter Try.func33, Try.ntmps33
      go_wp2
      go_ret
      exact ⟨rfl, HB.out⟩
    · have e1 : (ac == 1) = false := by simpa using h1
      have e2 : (ac == 2) = false := by simpa using h2
      have R := Lib.hid (show true = accB ac own by unfold accB; rw [if_neg h1, if_neg h2])
      clear h1 h2
      go_enter Try.func33, Try.ntmps33
      go_wp2
      go_ret
      exact ⟨ret_bool R.out, HB.out⟩
end Go.Proofs.Ytpjfpcebjneblaa
end
section
namespace Go.Proofs.Ytpjfpcebjneblaa
open Go.RowKit

set_option maxRecDepth 100000 in
set_option maxHeartbeats 1000000 in
theorem equal_frame (d s : Nat → Nat) (tg : Bool) (pc : Nat) (de : Bool) (vi ty : Nat) (da : ByteArray) (w : World) :
    (Op.equalIn 10000 46 (.agg (frA d s tg pc de vi ty da)) (.agg (frA d s tg pc de vi ty da))).run Try.prog w = .ok true w := by
  have hS : Try.prog.underlying 46 = some (.struct (Try.prog.fieldsOf 46)) := by kernel_rfl
  have hp : Try.prog.stoodInHeld 46 = false := by kernel_rfl
  rw [show (10000 : Nat) = 9999 + 1 from rfl, run_equalIn_agg w 9999 46 _ _ hS hp]
  simp only [Program.fieldsOf, Try.underlying46]
  have u5 := Try.underlying5
  have u4 := Try.underlying4
  have u9 := Try.underlying9
  have u40 := Try.underlying22
  have e1 : ∀ W, (Op.equalIn 9999 44 (mac d) (mac d)).run Try.prog W = .ok true W := fun W => by rw [equal_mac 9997 44 Try.underlying44, eqMac_self]
  have e2 : ∀ W, (Op.equalIn 9999 44 (mac s) (mac s)).run Try.prog W = .ok true W := fun W => by rw [equal_mac 9997 44 Try.underlying44, eqMac_self]
  go_simp
end Go.Proofs.Ytpjfpcebjneblaa
end
section
namespace Go.Proofs.Ytpjfpcebjneblaa
open Go.RowKit
attribute [local irreducible] wpQuiet
set_option linter.unusedSimpArgs false
set_option linter.unusedVariables false

/-- What becomes of it: its settings, whether it has a VLAN of its own, whether there is its VLAN, whether the port is a member. -/
def ingC (ac : Int) (fi own found mem : Bool) : Int := if accB ac own = false then 1 else if found = false then 2 else if fi = true ∧ mem = false then 3 else 0
def ingV (vid : Nat) (c : Int) : Nat := if c = 0 then vid else 0
theorem ret_ing {a b : Nat} {c d : Int} (h : a = b) (g : c = d) : Ending.returned (.tuple #[.int .u16 (a : Nat), .int .i64 c]) = .returned (.tuple #[.int .u16 (b : Nat), .int .i64 d]) := by rw [h, g]

set_option maxRecDepth 100000 in
set_option maxHeartbeats 4000000 in
theorem ingress_any (pv : Nat) (ac : Int) (fi : Bool) (no : Int) (arr : Array Value) (tg : Bool) (vi : Nat) (a12 : arr[12]? = some (.bool tg)) (a15 : arr[15]? = some (.int .u16 (vi : Nat))) (hsz : arr.size = 18)
    (tv : Value) (x : Vl) (hm : x.mem < 4294967296) (found : Bool) (w : World)
    (hget : ∀ W, Below w.heap.size w W → Calls Try.prog 12 #[tv, .int .u16 ((if ownB tg vi then vi else pv : Nat) : Nat)] W fun e w' => e = .returned (.tuple #[vlV x, .bool found]) ∧ Below W.heap.size W w') :
    Calls Try.prog 14 #[.agg (poA pv ac fi), .int .i64 no, .agg arr, tv] w fun e w' =>
      e = .returned (.tuple #[.int .u16 (ingV (if ownB tg vi then vi else pv) (ingC ac fi (ownB tg vi) found (hasB x.mem no)) : Nat), .int .i64 (ingC ac fi (ownB tg vi) found (hasB x.mem no))]) ∧ Below w.heap.size w w' := by
  obtain ⟨xv, m, u⟩ := x
  simp only at hm ⊢
  obtain ⟨G, hG⟩ : ∃ G, G = w.heap.size := ⟨_, rfl⟩
  obtain ⟨w1, hw1⟩ : ∃ w1, w1 = (w.alloc (.cells (poA pv ac fi) 30)).alloc (.cells arr 46) := ⟨_, rfl⟩
  have hb1 : Below w.heap.size w w1 := by rw [hw1]; exact ((Below.refl w.heap.size w).alloc (Nat.le_refl _) _).alloc (by simp) _
  have hp1 : Blk w1 G (poA pv ac fi) 30 := by rw [hw1, hG]; exact (Blk.new _ _ _).alloc _
  have hf1 : Blk w1 (G + 1) arr 46 := by
    have := Blk.new (w.alloc (.cells (poA pv ac fi) 30)) arr 46
    rw [hw1, hG]
    simpa using this
  obtain ⟨own, hown⟩ : ∃ own, own = ownB tg vi := ⟨_, rfl⟩
  obtain ⟨vid, hvid⟩ : ∃ vid, vid = (if ownB tg vi then vi else pv : Nat) := ⟨_, rfl⟩
  obtain ⟨has, hhas⟩ : ∃ has, has = hasB m no := ⟨_, rfl⟩
  obtain ⟨acc, hacc⟩ : ∃ acc, acc = accB ac own := ⟨_, rfl⟩
  rw [← hvid] at hget
  rw [← hown, ← hhas, show (if own = true then vi else pv) = vid by rw [hvid, hown]]
  obtain ⟨C, hC⟩ : ∃ C, C = ingC ac fi own found has := ⟨_, rfl⟩
  rw [← hC]
  have HGET := Lib.hid hget
  have HG := Lib.hid hG
  have HW := Lib.hid hw1
  have HB1 := Lib.hid hb1
  have HP := Lib.hid (show ∀ w', Below w1.heap.size w1 w' → Blk w' G (poA pv ac fi) 30 from fun w' hb => hp1.below hb hp1.lt)
  have HF := Lib.hid (show ∀ w', Below w1.heap.size w1 w' → Blk w' (G + 1) arr 46 from fun w' hb => hf1.below hb hf1.lt)
  have SZ := Lib.hid (show (Try.prog.info? 46).map (·.size) = some arr.size by rw [hsz]; exact size52)
  have SZP := Lib.hid poSize
  have OWN := Lib.hid (show ∀ W : World, Calls Try.prog 32 #[.agg arr] W fun e w' => e = .returned (.bool own) ∧ Below W.heap.size W w' from fun W => by rw [hown]; exact own_any arr tg vi a12 a15 W)
  have ACC := Lib.hid (show ∀ W : World, Calls Try.prog 33 #[.agg (poA pv ac fi), .bool own] W fun e w' => e = .returned (.bool acc) ∧ Below W.heap.size W w' from fun W => by rw [hacc]; exact accepts_any pv ac fi own W)
  have HAS := Lib.hid (show ∀ W : World, Calls Try.prog 13 #[.int .u32 (m : Nat), .int .i64 no] W fun e w' => e = .returned (.bool has) ∧ W = w' from fun W => by rw [hhas]; exact has_any m no W hm)
  have HC15 := Lib.hid (show ∀ w', Below w1.heap.size w1 w' → w'.cell? ⟨G + 1, 15, none⟩ = some (.int .u16 (vi : Nat)) from fun w' hb => by rw [(hf1.below hb hf1.lt).cell]; exact a15)
  have HC0 := Lib.hid (show ∀ w', Below w1.heap.size w1 w' → w'.cell? ⟨G, 0, none⟩ = some (.int .u16 (pv : Nat)) from fun w' hb => by rw [(hp1.below hb hp1.lt).cell]; rfl)
  have HC2 := Lib.hid (show ∀ w', Below w1.heap.size w1 w' → w'.cell? ⟨G, 2, none⟩ = some (.bool fi) from fun w' hb => by rw [(hp1.below hb hp1.lt).cell]; rfl)
  have HV := Lib.hid (show ((own = true ∧ vid = vi) ∨ (own = false ∧ vid = pv)) from by
    rw [hvid, hown]
    cases ownB tg vi
    · exact .inr ⟨rfl, rfl⟩
    · exact .inl ⟨rfl, rfl⟩)
  have RC := Lib.hid (show C = if acc = false then 1 else if found = false then 2 else if fi = true ∧ has = false then 3 else 0 by rw [hC]; unfold ingC; rw [hacc])
  clear hC hw1 hb1 hp1 hf1 hown hvid hhas hacc hget hG a12 a15 hsz hm
  have key : ∀ (c : Int) (v : Nat) (W : World), c = C → v = ingV vid c → Below w1.heap.size w1 W → Ending.returned (.tuple #[.int .u16 (v : Nat), .int .i64 c]) = .returned (.tuple #[.int .u16 (ingV vid C : Nat), .int .i64 C]) ∧ Below w.heap.size w W := fun c v W h1 h2 h3 => by
    subst h1
    subst h2
    exact ⟨rfl, HB1.out.trans (h3.mono HB1.out.size)⟩
  have KEY := Lib.hid key
  clear key
  go_enter Try.func14, Try.ntmps14
  go_upto_region 1 with fail
  rw [← HW.out, ← HG.out]
  refine wp_region_quiet (C := Below w1.heap.size w1) (by kernel_rfl) (by kernel_rfl) (Below.refl _ _).drew ?_
  (refine q_val (v := .agg arr) (by rfl) (fun w hC => run_loadVar_of 46 _ rfl (G + 1) rfl 46 arr _ (HF.out w hC) Try.underlying46 rfl SZ.out) ?_; (try simp only [Act.put, List.getElem_toArray, List.getElem_cons_succ, List.getElem_cons_zero, List.setIfInBounds_toArray, List.set_cons_zero, List.set_cons_succ]))
  (refine q_call (v := .bool own) 32 #[.agg arr] (by rfl) (fun w hC => by go_simp) (fun w hC => calls_in (OWN.out w) (fun w' hb => hC.trans (hb.mono hC.size))) ?_; (try simp only [Act.put, List.getElem_toArray, List.getElem_cons_succ, List.getElem_cons_zero, List.setIfInBounds_toArray, List.set_cons_zero, List.set_cons_succ]))
  (refine q_val (v := ?_) (by rfl) ?_ ?_; rotate_left; (· (intro w hC; go_simp; try with_reducible rfl)); (try simp only [Act.put, List.getElem_toArray, List.getElem_cons_succ, List.getElem_cons_zero, List.setIfInBounds_toArray, List.set_cons_zero, List.set_cons_succ]))
  (refine q_val (v := ?_) (by rfl) ?_ ?_; rotate_left; (· (intro w hC; have q := HC0.out w hC; go_simp; try with_reducible rfl)); (try simp only [Act.put, List.getElem_toArray, List.getElem_cons_succ, List.getElem_cons_zero, List.setIfInBounds_toArray, List.set_cons_zero, List.set_cons_succ]))
  (refine q_val (v := ?_) (by rfl) ?_ ?_; rotate_left; (· (intro w hC; go_simp; try with_reducible rfl)); (try simp only [Act.put, List.getElem_toArray, List.getElem_cons_succ, List.getElem_cons_zero, List.setIfInBounds_toArray, List.set_cons_zero, List.set_cons_succ]))
  (refine q_val (v := ?_) (by rfl) ?_ ?_; rotate_left; (· (intro w hC; go_simp; try with_reducible rfl)); (try simp only [Act.put, List.getElem_toArray, List.getElem_cons_succ, List.getElem_cons_zero, List.setIfInBounds_toArray, List.set_cons_zero, List.set_cons_succ]))
  refine wpQuiet_nil ?_
  intro w5 hC5
  have K5 := Lib.hid hC5
  clear hC5
  have HXX := Lib.hid (show ∀ (W6 W7 : World) , Below w5.heap.size w5 W6 → W7 = W6.alloc (.cells #[.int .u16 (xv : Nat), .int .u32 (m : Nat), .int .u32 (u : Nat)] 37) → Below w1.heap.size w1 W7 ∧ Blk W7 W6.heap.size #[.int .u16 (xv : Nat), .int .u32 (m : Nat), .int .u32 (u : Nat)] 37 from fun W6 W7 h1 h2 => by
    rw [h2]
    exact ⟨(K5.out.trans (h1.mono K5.out.size)).alloc (Nat.le_trans K5.out.size h1.size) _, Blk.new _ _ _⟩)
  rcases HV.out with ⟨ho, hv⟩ | ⟨ho, hv⟩
  all_goals
    subst ho
    subst hv
    have q15 := HC15.out w5 K5.out
    go_upto_region 4 with fail
    clear q15
    go_upto_region 5 with (go_at_call 12; refine (HGET.out w5 (HB1.out.trans (K5.out.mono HB1.out.size))).mono ?_; rintro e w6 ⟨rfl, hb6⟩)
    obtain ⟨W7, hW7⟩ : ∃ W7, W7 = w6.alloc (.cells #[.int .u16 (xv : Nat), .int .u32 (m : Nat), .int .u32 (u : Nat)] 37) := ⟨_, rfl⟩
    obtain ⟨b7, k7⟩ := HXX.out w6 W7 hb6 hW7
    rw [← hW7]
    obtain ⟨g7, hg7⟩ : ∃ g7, g7 = w6.heap.size := ⟨_, rfl⟩
    rw [← hg7] at k7 ⊢
    clear hW7 hb6 hg7
    have B7 := Lib.hid b7
    have K7 := Lib.hid k7
    have q0 := HC0.out W7 b7
    have q1 : W7.cell? ⟨G, 1, none⟩ = some (.int .i64 ac) := by rw [(HP.out W7 b7).cell]; rfl
    have q2 := HC2.out W7 b7
    clear b7 k7
    cases acc with
    | false =>
      have R := Lib.hid (show (1 : Int) = C by rw [RC.out]; rfl)
      clear RC
      go_wp2_with (go_at_call 33; refine (ACC.out _).mono ?_; rintro e w8 ⟨rfl, hb8⟩; have B8 := Lib.hid hb8; clear hb8)
      go_ret2
      exact KEY.out 1 0 _ R.out rfl (B7.out.trans (B8.out.mono B7.out.size))
    | true =>
      go_upto_region 7 with (go_at_call 33; refine (ACC.out _).mono ?_; rintro e w8 ⟨rfl, hb8⟩)
      have B8 := Lib.hid (B7.out.trans (hb8.mono B7.out.size))
      have q21 : w8.cell? ⟨G, 2, none⟩ = some (.bool fi) := HC2.out w8 B8.out
      have q22 : w8.cell? ⟨g7, 1, none⟩ = some (.int .u32 (m : Nat)) := by rw [(K7.out.below hb8 K7.out.lt).cell]; rfl
      clear hb8 q0 q1 q2
      cases found with
      | false =>
        have R := Lib.hid (show (2 : Int) = C by rw [RC.out]; rfl)
        clear RC
        go_wp2_with fail
        go_ret2
        exact KEY.out 2 0 _ R.out rfl B8.out
      | true =>
        cases fi with
        | false =>
          have R := Lib.hid (show (0 : Int) = C by rw [RC.out]; rfl)
          clear RC
          go_wp2_with fail
          go_ret2
          exact KEY.out 0 _ _ R.out rfl B8.out
        | true =>
          cases has with
          | false =>
            have R := Lib.hid (show (3 : Int) = C by rw [RC.out]; rfl)
            clear RC
            go_wp2_with (go_at_call 13; refine (HAS.out _).mono ?_; rintro e w9 ⟨rfl, rfl⟩)
            go_ret2
            exact KEY.out 3 0 _ R.out rfl B8.out
          | true =>
            have R := Lib.hid (show (0 : Int) = C by rw [RC.out]; rfl)
            clear RC
            go_wp2_with (go_at_call 13; refine (HAS.out _).mono ?_; rintro e w9 ⟨rfl, rfl⟩)
            go_ret2
            exact KEY.out 0 _ _ R.out rfl B8.out
end Go.Proofs.Ytpjfpcebjneblaa
end
section
namespace Go.Proofs.Ytpjfpcebjneblaa
open Go.RowKit
set_option linter.unusedSimpArgs false
set_option linter.unusedVariables false

/-- What is found for a number. -/
def findV (vid : Nat) (l : List Vl) : Vl × Bool := if atV vid l < 0 then (⟨0, 0, 0⟩, false) else (l.getD (atV vid l).toNat ⟨0, 0, 0⟩, true)
def Small (l : List Vl) : Prop := ∀ y ∈ l, y.mem < 65536 ∧ y.unt < 65536
theorem findV_small {l : List Vl} (h : Small l) (vid : Nat) : (findV vid l).1.mem < 65536 ∧ (findV vid l).1.unt < 65536 := by
  unfold findV
  split
  · exact ⟨by decide, by decide⟩
  · simp only [List.getD_eq_getElem?_getD]
    cases hg : l[(atV vid l).toNat]? with
    | none => exact ⟨by simp, by simp⟩
    | some y => exact h y (List.mem_of_getElem? hg)
theorem findV_nil (vid : Nat) : findV vid [] = (⟨0, 0, 0⟩, false) := rfl
theorem findV_one (x : Vl) : findV x.vid [x] = (x, true) := by simp [findV, atV]
theorem goodV_small {x : Vl} (h : goodV x = 0) : x.mem < 65536 ∧ x.unt < 65536 := by
  unfold goodV at h
  split at h
  · cases h
  · split at h
    · cases h
    · omega
theorem setV_small {l : List Vl} (h : Small l) (x : Vl) : Small (setV l x) := by
  unfold setV
  split
  · exact h
  · rename_i hg
    have hx := goodV_small (show goodV x = 0 by simpa using hg)
    split
    · intro y hy
      rcases List.mem_or_eq_of_mem_set hy with h1 | h1
      · exact h y h1
      · rw [h1]; exact hx
    · split
      · exact h
      · intro y hy
        simp only [List.mem_append, List.mem_cons, List.not_mem_nil, or_false] at hy
        rcases hy with (h1 | h1) | h1
        · exact h y (List.mem_of_mem_take h1)
        · rw [h1]; exact hx
        · exact h y (List.mem_of_mem_drop h1)

theorem get_find {w : World} {b A B : Nat} {l : List Vl} (vid : Nat) (h : TM w b A B l) :
    Calls Try.prog 12 #[.pointer (some ⟨b, 0, none⟩), .int .u16 (vid : Nat)] w fun e w' => e = .returned (.tuple #[vlV (findV vid l).1, .bool (findV vid l).2]) ∧ Below w.heap.size w w' :=
  (get_tm vid h).mono fun e w' ⟨hb, hr⟩ => by
    refine ⟨?_, hb⟩
    rcases hr with ⟨h1, h2⟩ | ⟨k, x, h1, h2, h3⟩
    · rw [h2]; unfold findV; rw [if_pos (by rw [h1]; omega)]; rfl
    · rw [h3]; unfold findV; rw [if_neg (by rw [h1]; omega), h1]; simp [h2]
theorem vl_info : (Try.prog.info? 37).map (·.size) = some 3 := by kernel_rfl
theorem get_none (w : World) (vid : Nat) : Calls Try.prog 12 #[.pointer none, .int .u16 (vid : Nat)] w fun e w' => e = .returned (.tuple #[vlV ⟨0, 0, 0⟩, .bool false]) ∧ Below w.heap.size w w' := by
  have HB := Lib.hid ((Below.refl w.heap.size w).alloc (Nat.le_refl _) (.cells vlNilA 37))
  have hz := zero48
  go_enter Try.func12, Try.ntmps12
  go_wp2
  exact bodyPost_ret (v := .tuple #[.agg vlNilA, .bool false]) (results_row_tmp Try.results12 _ _ w.heap.size 37 vlNilA _ _ rfl rfl (Blk.new w vlNilA 37) Try.underlying37 rfl vl_info) rfl ⟨rfl, HB.out⟩

/-- The table alone. -/
structure OneV (w0 : World) (b A B : Nat) (l : List Vl) (w : World) : Prop where
  tab : TM w b A B l
  low : w0.heap.size ≤ A ∧ A ≤ B ∧ B ≤ w.heap.size
  below : Below w0.heap.size w0 w
section
variable {w0 w w' : World} {b A B : Nat} {l l' : List Vl}
theorem OneV.next (h : OneV w0 b A B l w) (hb : Below w.heap.size w w') : OneV w0 b A B l w' :=
  ⟨h.tab.keep (fun k _ hk => hb.block k (by have := h.low; omega)), ⟨h.low.1, h.low.2.1, by have := h.low; have := hb.size; omega⟩, h.below.trans (hb.mono (by have := h.low; omega))⟩
theorem OneV.after (h : OneV w0 b A B l w) (ht : TM w' b A B l') (hk : KeptO A B w w') : OneV w0 b A B l' w' := by
  have h1 := h.low
  have h2 := hk.size
  exact ⟨ht, ⟨h1.1, h1.2.1, by omega⟩, h.below.trans ((hk.below (by omega)).mono h1.1)⟩
theorem OneV.setCell (h : OneV w0 b A B l w) {a : Addr} (ha : B ≤ a.block) (u : Value) : OneV w0 b A B l (w.setCell a u) :=
  ⟨h.tab.keep (fun k _ hk => Below.heap_setCell w a u k (by omega)), ⟨h.low.1, h.low.2.1, by have := h.low; simpa using this.2.2⟩, h.below.setCell (by have := h.low; omega) u⟩
theorem OneV.start {w1 w2 : World} (hb1 : Below w0.heap.size w0 w1) (ht : TM w2 b w1.heap.size w2.heap.size l) (hb2 : Below w1.heap.size w1 w2) : OneV w0 b w1.heap.size w2.heap.size l w2 :=
  ⟨ht, ⟨hb1.size, hb2.size, Nat.le_refl _⟩, hb1.trans (hb2.mono hb1.size)⟩
end
end Go.Proofs.Ytpjfpcebjneblaa
end
section
namespace Go.Proofs.Ytpjfpcebjneblaa
open Go.RowKit

/-- A struct that is built of some parts. -/
theorem run_build_of {P : Program} {o : Oper} {a : Act} {w : World} (t : TypeId) (parts : List (Nat × Operand)) (ho : o.op = .build t parts.toArray) (vals : List (Nat × Value)) (arr : Array Value)
    (hv : parts.map (fun x => (x.1, a.eval x.2)) = vals) (hb : P.built t vals = some arr) : (execOp a.eval o).run P w = .ok (.value (.agg arr)) w := by
  subst hv
  have e : (Array.map (fun x => (x.1, a.eval x.2)) parts.toArray).toList = parts.map (fun x => (x.1, a.eval x.2)) := by simp
  rw [← e] at hb
  unfold execOp
  simp only [ho, Sem.run_bind, run_build w t _ arr hb, Result.andThen_ok, Sem.run_pure]

/-- A struct that is made. -/
theorem wpList_alloc {P : Program} {ops : Array Oper} {Q : Exit → Act → World → Prop} {a : Act} {w : World} {rest : List Oper} {o : Oper} (t : TypeId) (ho : o.op = .alloc t) (hw : Region.wanted o (yielded ops a.tmps) = true) (z : Array Value)
    (hz : ∀ W : World, (zeroValue t).run P W = .ok (.agg z) W) (h : wpList P ops Q rest (a.put o.dst (.pointer (some ⟨w.heap.size, 0, none⟩))) (w.alloc (.cells z t))) : wpList P ops Q (o :: rest) a w := by
  refine BigFrame.wpList_want hw fun K hK => ?_
  unfold Oper.wp execOp
  simp only [ho, Instr.alloc, Sem.run_bind, hz, Result.andThen_ok, newVar, Sem.run_pure]
  exact hK _ _ h
end Go.Proofs.Ytpjfpcebjneblaa
end
section
namespace Go.Proofs.Ytpjfpcebjneblaa
open Go.RowKit
set_option linter.unusedSimpArgs false
set_option linter.unusedVariables false

/-- What is found for a key. -/
def findS (v : Nat) (l : List Se) : Nat × Bool := if atK seK v l < 0 then (0, false) else ((l.getD (atK seK v l).toNat ⟨0, 0, 0⟩).prt, true)
def findF (v : Nat) (l : List En) : Int × Bool := if atK enK v l < 0 then (0, false) else ((l.getD (atK enK v l).toNat ⟨0, 0, 0, 0⟩).port, true)
theorem get_s {w : World} {b A B : Nat} {l : List Se} (vid a : Nat) (ha : a < 281474976710656) (h : TS w b A B l) :
    Calls Try.prog 21 #[.pointer (some ⟨b, 0, none⟩), kyV vid a] w fun e w' => e = .returned (.tuple #[.int .u32 ((findS (keyN vid a) l).1 : Nat), .bool (findS (keyN vid a) l).2]) ∧ Below w.heap.size w w' :=
  (get_ts vid a ha h).mono fun e w' ⟨hb, hr⟩ => by
    refine ⟨?_, hb⟩
    unfold findS
    rcases hr with ⟨h1, h2⟩ | ⟨k, x, h1, h2, h3⟩
    · rw [h2, if_pos (by rw [h1]; omega)]; rfl
    · rw [h3, if_neg (by rw [h1]; omega), h1]; simp [h2]
theorem find_f {w : World} {b A B : Nat} {mo li : Int} {l : List En} (vid a : Nat) (ha : a < 281474976710656) (h : TF w b A B mo li l) :
    Calls Try.prog 22 #[.pointer (some ⟨b, 0, none⟩), kyV vid a] w fun e w' => e = .returned (.tuple #[.int .i64 (findF (keyN vid a) l).1, .bool (findF (keyN vid a) l).2]) ∧ Below w.heap.size w w' :=
  (find_tf vid a ha h).mono fun e w' ⟨hb, hr⟩ => by
    refine ⟨?_, hb⟩
    unfold findF
    rcases hr with ⟨h1, h2⟩ | ⟨k, x, h1, h2, h3⟩
    · rw [h2, if_pos (by rw [h1]; omega)]
    · rw [h3, if_neg (by rw [h1]; omega), h1]; simp [h2]
def SmallS (l : List Se) : Prop := ∀ y ∈ l, y.prt < 65536
theorem findS_small {l : List Se} (h : SmallS l) (v : Nat) : (findS v l).1 < 65536 := by
  unfold findS
  split
  · decide
  · simp only [List.getD_eq_getElem?_getD]
    cases hg : l[(atK seK v l).toNat]? with
    | none => simp
    | some y => exact h y (List.mem_of_getElem? hg)

/-- Where they lie. -/
structure Ix where
  b1 : Nat
  a1 : Nat
  z1 : Nat
  b2 : Nat
  a2 : Nat
  z2 : Nat
  b3 : Nat
  a3 : Nat
  z3 : Nat
structure T3 (w0 : World) (i : Ix) (lv : List Vl) (ls : List Se) (lf : List En) (w : World) : Prop where
  tabV : TM w i.b1 i.a1 i.z1 lv
  tabS : TS w i.b2 i.a2 i.z2 ls
  tabF : TF w i.b3 i.a3 i.z3 64 1000 lf
  low : w0.heap.size ≤ i.a1 ∧ i.a1 ≤ i.z1 ∧ i.z1 ≤ i.a2 ∧ i.a2 ≤ i.z2 ∧ i.z2 ≤ i.a3 ∧ i.a3 ≤ i.z3 ∧ i.z3 ≤ w.heap.size
  below : Below w0.heap.size w0 w
  smV : Small lv
  smS : SmallS ls
section
variable {w0 w w' : World} {i : Ix} {lv lv' : List Vl} {ls ls' : List Se} {lf lf' : List En}
theorem T3.next (h : T3 w0 i lv ls lf w) (hb : Below w.heap.size w w') : T3 w0 i lv ls lf w' := by
  have hl := h.low
  have hs := hb.size
  exact ⟨h.tabV.keep (fun k _ hk => hb.block k (by omega)), h.tabS.keep (fun k _ hk => hb.block k (by omega)), h.tabF.keep (fun k _ hk => hb.block k (by omega)), ⟨hl.1, hl.2.1, hl.2.2.1, hl.2.2.2.1, hl.2.2.2.2.1, hl.2.2.2.2.2.1, by omega⟩, h.below.trans (hb.mono (by omega)), h.smV, h.smS⟩
theorem T3.setV (h : T3 w0 i lv ls lf w) (ht : TM w' i.b1 i.a1 i.z1 lv') (hs : Small lv') (hk : KeptO i.a1 i.z1 w w') : T3 w0 i lv' ls lf w' := by
  have hl := h.low
  have hz := hk.size
  exact ⟨ht, h.tabS.keep (fun k hk1 hk2 => hk.block k (.inr (by omega)) (by omega)), h.tabF.keep (fun k hk1 hk2 => hk.block k (.inr (by omega)) (by omega)), ⟨hl.1, hl.2.1, hl.2.2.1, hl.2.2.2.1, hl.2.2.2.2.1, hl.2.2.2.2.2.1, by omega⟩, h.below.trans ((hk.below (by omega)).mono hl.1), hs, h.smS⟩
theorem T3.setS (h : T3 w0 i lv ls lf w) (ht : TS w' i.b2 i.a2 i.z2 ls') (hs : SmallS ls') (hk : KeptO i.a2 i.z2 w w') : T3 w0 i lv ls' lf w' := by
  have hl := h.low
  have hz := hk.size
  exact ⟨h.tabV.keep (fun k hk1 hk2 => hk.block k (.inl (by omega)) (by omega)), ht, h.tabF.keep (fun k hk1 hk2 => hk.block k (.inr (by omega)) (by omega)), ⟨hl.1, hl.2.1, hl.2.2.1, hl.2.2.2.1, hl.2.2.2.2.1, hl.2.2.2.2.2.1, by omega⟩, h.below.trans ((hk.below (by omega)).mono (by omega)), h.smV, hs⟩
theorem T3.learn (h : T3 w0 i lv ls lf w) (ht : TF w' i.b3 i.a3 i.z3 64 1000 lf') (hk : KeptO i.a3 i.z3 w w') : T3 w0 i lv ls lf' w' := by
  have hl := h.low
  have hz := hk.size
  exact ⟨h.tabV.keep (fun k hk1 hk2 => hk.block k (.inl (by omega)) (by omega)), h.tabS.keep (fun k hk1 hk2 => hk.block k (.inl (by omega)) (by omega)), ht, ⟨hl.1, hl.2.1, hl.2.2.1, hl.2.2.2.1, hl.2.2.2.2.1, hl.2.2.2.2.2.1, by omega⟩, h.below.trans ((hk.below (by omega)).mono (by omega)), h.smV, h.smS⟩
theorem T3.setCell (h : T3 w0 i lv ls lf w) {a : Addr} (ha : i.z3 ≤ a.block) (u : Value) : T3 w0 i lv ls lf (w.setCell a u) := by
  have hl := h.low
  exact ⟨h.tabV.keep (fun k _ hk => Below.heap_setCell w a u k (by omega)), h.tabS.keep (fun k _ hk => Below.heap_setCell w a u k (by omega)), h.tabF.keep (fun k _ hk => Below.heap_setCell w a u k (by omega)), ⟨hl.1, hl.2.1, hl.2.2.1, hl.2.2.2.1, hl.2.2.2.2.1, hl.2.2.2.2.2.1, by simpa using hl.2.2.2.2.2.2⟩, h.below.setCell (by omega) u, h.smV, h.smS⟩
end
abbrev t3A (i : Ix) : Array Value := #[.pointer (some ⟨i.b1, 0, none⟩), .pointer (some ⟨i.b2, 0, none⟩), .pointer (some ⟨i.b3, 0, none⟩)]
theorem t3Size : (Try.prog.info? 55).map (·.size) = some 3 := by kernel_rfl
theorem t3_one (i : Ix) : (t3A i).all (·.oneCell') = true := by simp [Value.oneCell']

set_option maxHeartbeats 4000000 in
theorem tables_any (w : World) : Calls Try.prog 16 #[] w fun e w' => ∃ i : Ix, e = .returned (.agg (t3A i)) ∧ T3 w i [] [] [] w' := by
  have SZ := Lib.hid t3Size
  go_enter Try.func16, Try.ntmps16
  go_upto_region 1 with fail
  have K0 := Lib.hid (Blk.new w #[.pointer none, .pointer none, .pointer none] 55)
  have B0 := Lib.hid ((Below.refl w.heap.size w).alloc (Nat.le_refl _) (.cells #[.pointer none, .pointer none, .pointer none] 55))
  obtain ⟨w1, hw1⟩ : ∃ w1, w1 = w.alloc (.cells #[.pointer none, .pointer none, .pointer none] 55) := ⟨_, rfl⟩
  rw [← hw1] at K0 B0 ⊢
  clear hw1
  have HF := Lib.hid (show ∀ W : World, Calls Try.prog 35 #[.int .i64 64, .int .i64 1000] W fun e w' => ∃ b, e = .returned (.pointer (some ⟨b, 0, none⟩)) ∧ TF w' b W.heap.size w'.heap.size 64 1000 [] ∧ Below W.heap.size W w' from fun W => new_tf 64 1000 W)
  have HZ0 := Lib.hid (show w.heap.size < w1.heap.size from K0.out.lt)
  go_wp2_with (first
    | (go_at_call 9; refine (new_tm _).mono ?_; rintro e w2 ⟨bv, rfl, tv, hb2⟩; have TV := Lib.hid tv; have B2 := Lib.hid hb2; have K2 := Lib.hid (K0.out.below hb2 K0.out.lt); clear tv hb2)
    | (go_at_call 34; refine (new_ts _).mono ?_; rintro e w3 ⟨bs, rfl, ts, hb3⟩; have TSS := Lib.hid ts; have B3 := Lib.hid hb3; have K3 := Lib.hid (K2.out.below hb3 K2.out.lt); clear ts hb3)
    | (go_at_call 35; with_reducible refine (HF.out _).mono ?_; rintro e w4 ⟨bf, rfl, tf, hb4⟩; have TFF := Lib.hid tf; have B4 := Lib.hid hb4; have K4 := Lib.hid (K3.out.below hb4 K3.out.lt); clear tf hb4)
    | (refine wpList_store_row rfl 55 _ _ rfl w.heap.size #[.pointer (some ⟨bv, 0, none⟩), .pointer (some ⟨bs, 0, none⟩), .pointer (some ⟨bf, 0, none⟩)] rfl rfl 55 #[.pointer none, .pointer none, .pointer none] K4.out SZ.out rfl (by simp [Value.oneCell']) ?_))
  have s2 := B2.out.size
  have s3 := B3.out.size
  have s4 := B4.out.size
  have s0 := HZ0.out
  refine bodyPost_ret (v := .agg #[.pointer (some ⟨bv, 0, none⟩), .pointer (some ⟨bs, 0, none⟩), .pointer (some ⟨bf, 0, none⟩)]) (results_cell_row Try.results16 _ _ w.heap.size 55 _ (0, 0) _ rfl (K4.out.row _) Try.underlying55 rfl SZ.out) rfl ?_
  refine ⟨⟨bv, w1.heap.size, w2.heap.size, bs, w2.heap.size, w3.heap.size, bf, w3.heap.size, w4.heap.size⟩, rfl, ?_, ?_, ?_, ⟨Nat.le_of_lt s0, s2, Nat.le_refl _, s3, Nat.le_refl _, s4, by simp [World.setRow]⟩, ?_, ?_, ?_⟩
  · exact TV.out.keep (fun k h1 h2 => (setRow_other w4 _ k _ (by omega)).trans (((B3.out.trans (B4.out.mono s3)).block k h2)))
  · exact TSS.out.keep (fun k h1 h2 => (setRow_other w4 _ k _ (by omega)).trans (B4.out.block k h2))
  · exact TFF.out.keep (fun k h1 h2 => setRow_other w4 _ k _ (by omega))
  · exact below_setRow (B0.out.trans ((B2.out.trans ((B3.out.trans (B4.out.mono s3)).mono s2)).mono (Nat.le_of_lt s0))) (Nat.le_refl _) _
  · intro y hy; cases hy
  · intro y hy; cases hy
/-- A set is laid: few and small they stay. -/
theorem setS_small {l : List Se} (h : SmallS l) (x : Se) : SmallS (setS l x) := by
  unfold setS
  split
  · exact h
  · rename_i hg
    have hx : x.prt < 65536 := by
      unfold goodS at hg
      split at hg
      · simp at hg
      · split at hg
        · simp at hg
        · split at hg
          · simp at hg
          · omega
    split
    · intro y hy
      rcases List.mem_or_eq_of_mem_set hy with h1 | h1
      · exact h y h1
      · rw [h1]; exact hx
    · split
      · exact h
      · intro y hy
        rcases layK_mem hy with h1 | h1
        · rw [h1]; exact hx
        · exact h y h1
end Go.Proofs.Ytpjfpcebjneblaa
end
section
namespace Go.Proofs.Ytpjfpcebjneblaa
open Go.RowKit
attribute [local irreducible] wpQuiet
set_option linter.unusedSimpArgs false
set_option linter.unusedVariables false

/-- The ports that lead to a station; all, where nothing is known of it. -/
def towN (k : Nat) (ls : List Se) (lf : List En) : Nat := if (findS k ls).2 = true then (findS k ls).1 else if (findF k lf).2 = true then ofS [(findF k lf).1] else 4294967295
theorem kySizeP : (Try.prog.info? 61).map (·.size) = some 7 := by kernel_rfl
theorem k7 {W : World} {c vid a : Nat} (h : Blk W c (kyA vid a) 61) :
    W.cell? ⟨c, 0, none⟩ = some (.int .u16 (vid : Nat)) ∧ W.cell? ⟨c, 1, none⟩ = some (.int .u8 (byteF a 0 : Nat)) ∧ W.cell? ⟨c, 2, none⟩ = some (.int .u8 (byteF a 1 : Nat)) ∧ W.cell? ⟨c, 3, none⟩ = some (.int .u8 (byteF a 2 : Nat)) ∧ W.cell? ⟨c, 4, none⟩ = some (.int .u8 (byteF a 3 : Nat)) ∧ W.cell? ⟨c, 5, none⟩ = some (.int .u8 (byteF a 4 : Nat)) ∧ W.cell? ⟨c, 6, none⟩ = some (.int .u8 (byteF a 5 : Nat)) :=
  ⟨h.cell 0, h.cell 1, h.cell 2, h.cell 3, h.cell 4, h.cell 5, h.cell 6⟩

set_option maxRecDepth 100000 in
set_option maxHeartbeats 4000000 in
theorem towards_any {w0 w : World} {i : Ix} {lv : List Vl} {ls : List Se} {lf : List En} (vid a : Nat) (ha : a < 281474976710656) (h : T3 w0 i lv ls lf w) :
    Calls Try.prog 42 #[.agg (t3A i), kyV vid a] w fun e w' => e = .returned (.int .u32 (towN (keyN vid a) ls lf : Nat)) ∧ Below w.heap.size w w' := by
  obtain ⟨G, hG⟩ : ∃ G, G = w.heap.size := ⟨_, rfl⟩
  obtain ⟨w1, hw1⟩ : ∃ w1, w1 = (w.alloc (.cells (t3A i) 55)).alloc (.cells (kyA vid a) 61) := ⟨_, rfl⟩
  have hb1 : Below w.heap.size w w1 := by rw [hw1]; exact ((Below.refl w.heap.size w).alloc (Nat.le_refl _) _).alloc (by simp) _
  have KT := Lib.hid (show Blk w1 G (t3A i) 55 by rw [hw1, hG]; exact (Blk.new _ _ _).alloc _)
  have KK := Lib.hid (show Blk w1 (G + 1) (kyA vid a) 61 by
    have := Blk.new (w.alloc (.cells (t3A i) 55)) (kyA vid a) 61
    rw [hw1, hG]
    simpa using this)
  have H1 := Lib.hid (h.next hb1)
  have HA := Lib.hid ha
  have HB1 := Lib.hid hb1
  have HW := Lib.hid hw1
  have HG := Lib.hid hG
  obtain ⟨sv, hsv⟩ : ∃ sv, sv = (findS (keyN vid a) ls).1 := ⟨_, rfl⟩
  obtain ⟨sf, hsf⟩ : ∃ sf, sf = (findS (keyN vid a) ls).2 := ⟨_, rfl⟩
  obtain ⟨fv, hfv⟩ : ∃ fv, fv = (findF (keyN vid a) lf).1 := ⟨_, rfl⟩
  obtain ⟨ff, hff⟩ : ∃ ff, ff = (findF (keyN vid a) lf).2 := ⟨_, rfl⟩
  obtain ⟨R, hR⟩ : ∃ R, R = towN (keyN vid a) ls lf := ⟨_, rfl⟩
  have HR := Lib.hid (show R = if sf = true then sv else if ff = true then ofS [fv] else 4294967295 by rw [hR, hsv, hsf, hfv, hff]; rfl)
  rw [← hR]
  have GS := Lib.hid (show ∀ W, T3 w0 i lv ls lf W → Calls Try.prog 21 #[.pointer (some ⟨i.b2, 0, none⟩), kyV vid a] W fun e w' => e = .returned (.tuple #[.int .u32 (sv : Nat), .bool sf]) ∧ Below W.heap.size W w' from fun W hW => by rw [hsv, hsf]; exact get_s vid a HA.out hW.tabS)
  have GF := Lib.hid (show ∀ W, T3 w0 i lv ls lf W → Calls Try.prog 22 #[.pointer (some ⟨i.b3, 0, none⟩), kyV vid a] W fun e w' => e = .returned (.tuple #[.int .i64 fv, .bool ff]) ∧ Below W.heap.size W w' from fun W hW => by rw [hfv, hff]; exact find_f vid a HA.out hW.tabF)
  have OF := Lib.hid (show ∀ W : World, Calls Try.prog 28 #[.slice (some ⟨W.heap.size, 0, none⟩) 1 1] (W.alloc (.cells #[.int .i64 fv] 3)) fun e w' => e = .returned (.int .u32 (ofS [fv] : Nat)) ∧ (W.alloc (.cells #[.int .i64 fv] 3)) = w' from fun W => of_any _ 1 [fv] _ (ints_new W [fv]) (by simp))
  clear hsv hsf hfv hff hR hG hw1 hb1 ha h
  go_enter Try.func42, Try.ntmps42
  go_upto_region 1 with fail
  rw [← HW.out, ← HG.out]
  have d1 : w1.cell? ⟨G, 1, none⟩ = some (.pointer (some ⟨i.b2, 0, none⟩)) := KT.out.cell 1
  obtain ⟨k0, k1, k2, k3, k4, k5, k6⟩ := k7 KK.out
  go_upto_region 2 with (go_at_call 21; refine (GS.out w1 H1.out).mono ?_; rintro e w2 ⟨rfl, hb2⟩)
  have H2 := Lib.hid (H1.out.next hb2)
  have B2 := Lib.hid (HB1.out.trans (hb2.mono HB1.out.size))
  have KT2 := Lib.hid (KT.out.below hb2 KT.out.lt)
  have KK2 := Lib.hid (KK.out.below hb2 KK.out.lt)
  clear hb2 d1 k0 k1 k2 k3 k4 k5 k6
  cases sf with
  | true =>
    have RR := Lib.hid (show sv = R by rw [HR.out, if_pos rfl])
    go_wp2_with fail
    go_ret
    exact ⟨by rw [← RR.out]; rfl, B2.out⟩
  | false =>
    have d2 : w2.cell? ⟨G, 2, none⟩ = some (.pointer (some ⟨i.b3, 0, none⟩)) := KT2.out.cell 2
    obtain ⟨k0, k1, k2, k3, k4, k5, k6⟩ := k7 KK2.out
    go_upto_region 5 with (go_at_call 22; refine (GF.out w2 H2.out).mono ?_; rintro e w3 ⟨rfl, hb3⟩)
    have B3 := Lib.hid (B2.out.trans (hb3.mono B2.out.size))
    clear hb3 d2 k0 k1 k2 k3 k4 k5 k6
    cases ff with
    | true =>
      have RR := Lib.hid (show ofS [fv] = R by rw [HR.out, if_neg (by decide), if_pos rfl])
      go_wp2_with (go_at_call 28; refine (OF.out _).mono ?_; rintro e w4 ⟨rfl, rfl⟩)
      go_ret
      exact ⟨by rw [← RR.out]; rfl, B3.out.alloc B3.out.size _⟩
    | false =>
      have RR := Lib.hid (show 4294967295 = R by rw [HR.out, if_neg (by decide), if_neg (by decide)])
      go_wp2_with fail
      go_ret
      exact ⟨by rw [← RR.out]; rfl, B3.out⟩

/-- To which ports a frame goes. -/
def portsN (from' : Int) (vid a opn : Nat) (lv : List Vl) (ls : List Se) (lf : List En) : Nat :=
  if (findV vid lv).2 = false ∨ resB (byteF a) = true then 0 else (withoutS (findV vid lv).1.mem from' &&& opn) &&& towN (keyN vid a) ls lf
theorem macSizeP : (Try.prog.info? 44).map (·.size) = some 6 := by kernel_rfl
theorem k6c {W : World} {c a : Nat} (h : Blk W c (macA (byteF a)) 44) :
    W.cell? ⟨c, 0, none⟩ = some (.int .u8 (byteF a 0 : Nat)) ∧ W.cell? ⟨c, 1, none⟩ = some (.int .u8 (byteF a 1 : Nat)) ∧ W.cell? ⟨c, 2, none⟩ = some (.int .u8 (byteF a 2 : Nat)) ∧ W.cell? ⟨c, 3, none⟩ = some (.int .u8 (byteF a 3 : Nat)) ∧ W.cell? ⟨c, 4, none⟩ = some (.int .u8 (byteF a 4 : Nat)) ∧ W.cell? ⟨c, 5, none⟩ = some (.int .u8 (byteF a 5 : Nat)) :=
  ⟨h.cell 0, h.cell 1, h.cell 2, h.cell 3, h.cell 4, h.cell 5⟩
theorem towN_lt {k : Nat} {ls : List Se} (lf : List En) (h : SmallS ls) : towN k ls lf < 4294967296 := by
  unfold towN
  split
  · have := findS_small h k; omega
  · split
    · have := ofS_lt [(findF k lf).1]; omega
    · omega

set_option maxRecDepth 100000 in
set_option maxHeartbeats 8000000 in
theorem ports_any {w0 w : World} {i : Ix} {lv : List Vl} {ls : List Se} {lf : List En} (from' : Int) (vid a opn : Nat) (ha : a < 281474976710656) (ho : opn < 4294967296) (h : T3 w0 i lv ls lf w) :
    Calls Try.prog 20 #[.agg (t3A i), .int .i64 from', .int .u16 (vid : Nat), mac (byteF a), .int .u32 (opn : Nat)] w fun e w' => e = .returned (.int .u32 (portsN from' vid a opn lv ls lf : Nat)) ∧ Below w.heap.size w w' := by
  obtain ⟨G, hG⟩ : ∃ G, G = w.heap.size := ⟨_, rfl⟩
  obtain ⟨w1, hw1⟩ : ∃ w1, w1 = (w.alloc (.cells (t3A i) 55)).alloc (.cells (macA (byteF a)) 44) := ⟨_, rfl⟩
  have hb1 : Below w.heap.size w w1 := by rw [hw1]; exact ((Below.refl w.heap.size w).alloc (Nat.le_refl _) _).alloc (by simp) _
  have KT := Lib.hid (show Blk w1 G (t3A i) 55 by rw [hw1, hG]; exact (Blk.new _ _ _).alloc _)
  have KM := Lib.hid (show Blk w1 (G + 1) (macA (byteF a)) 44 by
    have := Blk.new (w.alloc (.cells (t3A i) 55)) (macA (byteF a)) 44
    rw [hw1, hG]
    simpa using this)
  have H1 := Lib.hid (h.next hb1)
  have HA := Lib.hid ha
  have HO := Lib.hid ho
  have HB1 := Lib.hid hb1
  have HW := Lib.hid hw1
  have HG := Lib.hid hG
  have SZT := Lib.hid t3Size
  have SZM := Lib.hid macSizeP
  have SM := Lib.hid (findV_small h.smV vid)
  obtain ⟨xx, hxx⟩ : ∃ xx, xx = (findV vid lv).1 := ⟨_, rfl⟩
  obtain ⟨found, hfo⟩ : ∃ found, found = (findV vid lv).2 := ⟨_, rfl⟩
  obtain ⟨res, hres⟩ : ∃ res, res = resB (byteF a) := ⟨_, rfl⟩
  obtain ⟨tow, htow⟩ : ∃ tow, tow = towN (keyN vid a) ls lf := ⟨_, rfl⟩
  have HTL := Lib.hid (show tow < 4294967296 by rw [htow]; exact towN_lt lf h.smS)
  obtain ⟨R, hR⟩ : ∃ R, R = portsN from' vid a opn lv ls lf := ⟨_, rfl⟩
  have HR := Lib.hid (show R = if found = false ∨ res = true then 0 else (withoutS xx.mem from' &&& opn) &&& tow by rw [hR, hxx, hfo, hres, htow]; rfl)
  rw [← hR]
  have GV := Lib.hid (show ∀ W, T3 w0 i lv ls lf W → Calls Try.prog 12 #[.pointer (some ⟨i.b1, 0, none⟩), .int .u16 (vid : Nat)] W fun e w' => e = .returned (.tuple #[vlV xx, .bool found]) ∧ Below W.heap.size W w' from fun W hW => by rw [hxx, hfo]; exact get_find vid hW.tabV)
  have RS := Lib.hid (show ∀ W : World, Calls Try.prog 23 #[mac (byteF a)] W fun e w' => e = .returned (.bool res) ∧ Below W.heap.size W w' from fun W => by rw [hres]; exact reserved_any (byteF a) W (byteF_six a))
  have TW := Lib.hid (show ∀ W, T3 w0 i lv ls lf W → Calls Try.prog 42 #[.agg (t3A i), kyV vid a] W fun e w' => e = .returned (.int .u32 (tow : Nat)) ∧ Below W.heap.size W w' from fun W hW => by rw [htow]; exact towards_any vid a HA.out hW)
  rw [← hxx] at SM
  clear hxx hfo hres htow hR hG hw1 hb1 ha ho h
  obtain ⟨xv, m, u⟩ := xx
  have WO := Lib.hid (show ∀ W : World, Calls Try.prog 41 #[.int .u32 (m : Nat), .int .i64 from'] W fun e w' => e = .returned (.int .u32 (withoutS m from' : Nat)) ∧ W = w' from fun W => without_any m from' W (Nat.lt_trans SM.out.1 (by decide)))
  obtain ⟨wm, hwm⟩ : ∃ wm, wm = withoutS m from' := ⟨_, rfl⟩
  have HWM := Lib.hid (show wm < 4294967296 by rw [hwm]; exact withoutS_lt m from' (Nat.lt_trans SM.out.1 (by decide)))
  simp only at HR
  rw [← hwm] at HR WO
  clear hwm
  go_enter Try.func20, Try.ntmps20
  go_upto_region 1 with fail
  rw [← HW.out, ← HG.out]
  have d0 : w1.cell? ⟨G, 0, none⟩ = some (.pointer (some ⟨i.b1, 0, none⟩)) := KT.out.cell 0
  go_upto_region 2 with (go_at_call 12; refine (GV.out w1 H1.out).mono ?_; rintro e w2 ⟨rfl, hb2⟩)
  obtain ⟨V, hV⟩ : ∃ V, V = w2.heap.size := ⟨_, rfl⟩
  obtain ⟨W2, hW2⟩ : ∃ W2, W2 = w2.alloc (.cells #[.int .u16 (xv : Nat), .int .u32 (m : Nat), .int .u32 (u : Nat)] 37) := ⟨_, rfl⟩
  have b12 : Below w1.heap.size w1 W2 := by rw [hW2]; exact hb2.alloc hb2.size _
  have KV := Lib.hid (show Blk W2 V #[.int .u16 (xv : Nat), .int .u32 (m : Nat), .int .u32 (u : Nat)] 37 by rw [hW2, hV]; exact Blk.new _ _ _)
  have H2 := Lib.hid (H1.out.next b12)
  have B2 := Lib.hid (HB1.out.trans (b12.mono HB1.out.size))
  have KT2 := Lib.hid (KT.out.below b12 KT.out.lt)
  have KM2 := Lib.hid (KM.out.below b12 KM.out.lt)
  rw [← hV, ← hW2]
  clear hb2 hV hW2 b12 d0
  cases found with
  | false =>
    have RR := Lib.hid (show 0 = R by rw [HR.out, if_pos (.inl rfl)])
    go_wp2_with fail
    go_ret
    exact ⟨by rw [← RR.out]; rfl, B2.out⟩
  | true =>
    obtain ⟨m0, m1, m2, m3, m4, m5⟩ := k6c KM2.out
    cases res with
    | true =>
      have RR := Lib.hid (show 0 = R by rw [HR.out, if_pos (.inr rfl)])
      go_wp2_with (go_at_call 23; refine (RS.out _).mono ?_; rintro e w3 ⟨rfl, hb3⟩; have B3 := Lib.hid (B2.out.trans (hb3.mono B2.out.size)); clear hb3)
      go_ret
      exact ⟨by rw [← RR.out]; rfl, B3.out⟩
    | false =>
      have RR := Lib.hid (show (wm &&& opn) &&& tow = R by rw [HR.out, if_neg (by decide)])
      have A1 := Lib.hid (u32_and_nat wm opn HWM.out HO.out)
      have A2 := Lib.hid (u32_and_nat (wm &&& opn) tow (Nat.lt_of_le_of_lt Nat.and_le_left HWM.out) HTL.out)
      go_upto_region 4 with (go_at_call 23; refine (RS.out _).mono ?_; rintro e w3 ⟨rfl, hb3⟩)
      have H3 := Lib.hid (H2.out.next hb3)
      have B3 := Lib.hid (B2.out.trans (hb3.mono B2.out.size))
      have KV3 := Lib.hid (show ∀ W, Below w3.heap.size w3 W → W.cell? ⟨V, 1, none⟩ = some (.int .u32 (m : Nat)) from fun W hW => by
        have k := KV.out.below hb3 KV.out.lt
        rw [(k.below hW k.lt).cell]
        rfl)
      have KT3 := Lib.hid (show ∀ W, Below w3.heap.size w3 W → Blk W G (t3A i) 55 from fun W hW => by
        have k := KT2.out.below hb3 KT2.out.lt
        exact k.below hW k.lt)
      have KM3 := Lib.hid (show ∀ W, Below w3.heap.size w3 W → Blk W (G + 1) (macA (byteF a)) 44 from fun W hW => by
        have k := KM2.out.below hb3 KM2.out.lt
        exact k.below hW k.lt)
      clear hb3 m0 m1 m2 m3 m4 m5
      refine wp_region_quiet (C := Below w3.heap.size w3) (by kernel_rfl) (by kernel_rfl) (Below.refl _ _).drew ?_
      (refine q_val (v := ?_) (by rfl) ?_ ?_; rotate_left; (· (intro w hC; go_simp; try with_reducible rfl)); (try simp only [Act.put, List.getElem_toArray, List.getElem_cons_succ, List.getElem_cons_zero, List.setIfInBounds_toArray, List.set_cons_zero, List.set_cons_succ]))
      (refine q_val (v := ?_) (by rfl) ?_ ?_; rotate_left; (· (intro w hC; have q := KV3.out w hC; go_simp; try with_reducible rfl)); (try simp only [Act.put, List.getElem_toArray, List.getElem_cons_succ, List.getElem_cons_zero, List.setIfInBounds_toArray, List.set_cons_zero, List.set_cons_succ]))
      (refine q_val (v := ?_) (by rfl) ?_ ?_; rotate_left; (· (intro w hC; go_simp; try with_reducible rfl)); (try simp only [Act.put, List.getElem_toArray, List.getElem_cons_succ, List.getElem_cons_zero, List.setIfInBounds_toArray, List.set_cons_zero, List.set_cons_succ]))
      (refine q_call (v := .int .u32 (wm : Nat)) 41 #[.int .u32 (m : Nat), .int .i64 from'] (by rfl) (fun w hC => by go_simp) (fun w hC => (WO.out w).mono fun e w' ⟨q1, q2⟩ => ⟨q1, q2 ▸ hC⟩) ?_; (try simp only [Act.put, List.getElem_toArray, List.getElem_cons_succ, List.getElem_cons_zero, List.setIfInBounds_toArray, List.set_cons_zero, List.set_cons_succ]))
      (refine q_val (v := ?_) (by rfl) ?_ ?_; rotate_left; (· (intro w hC; go_simp; try with_reducible rfl)); (try simp only [Act.put, List.getElem_toArray, List.getElem_cons_succ, List.getElem_cons_zero, List.setIfInBounds_toArray, List.set_cons_zero, List.set_cons_succ]))
      (refine q_val (v := .int .u32 ((wm &&& opn : Nat) : Nat)) (by rfl) (fun w hC => by rw [← A1.out]; go_simp) ?_; (try simp only [Act.put, List.getElem_toArray, List.getElem_cons_succ, List.getElem_cons_zero, List.setIfInBounds_toArray, List.set_cons_zero, List.set_cons_succ]))
      (refine q_val (v := Value.agg (t3A i)) (by rfl) (fun w hC => run_loadVar_of 55 _ rfl G rfl 55 (t3A i) _ (KT3.out w hC) Try.underlying55 rfl SZT.out) ?_; (try simp only [Act.put, List.getElem_toArray, List.getElem_cons_succ, List.getElem_cons_zero, List.setIfInBounds_toArray, List.set_cons_zero, List.set_cons_succ]))
      (refine q_val (v := ?_) (by rfl) ?_ ?_; rotate_left; (· (intro w hC; go_simp; try with_reducible rfl)); (try simp only [Act.put, List.getElem_toArray, List.getElem_cons_succ, List.getElem_cons_zero, List.setIfInBounds_toArray, List.set_cons_zero, List.set_cons_succ]))
      (refine q_val (v := Value.agg (macA (byteF a))) (by rfl) (fun w hC => run_loadVar_of 44 _ rfl (G + 1) rfl 44 (macA (byteF a)) _ (KM3.out w hC) Try.underlying44 rfl SZM.out) ?_; (try simp only [Act.put, List.getElem_toArray, List.getElem_cons_succ, List.getElem_cons_zero, List.setIfInBounds_toArray, List.set_cons_zero, List.set_cons_succ]))
      (refine q_val (v := ?_) (by rfl) ?_ ?_; rotate_left; (· (intro w hC; go_simp; try with_reducible rfl)); (try simp only [Act.put, List.getElem_toArray, List.getElem_cons_succ, List.getElem_cons_zero, List.setIfInBounds_toArray, List.set_cons_zero, List.set_cons_succ]))
      (refine q_call (v := .int .u32 (tow : Nat)) 42 #[.agg (t3A i), kyV vid a] (by rfl) (fun w hC => by go_simp) (fun w hC => calls_in (TW.out w (H3.out.next hC)) (fun w' hb => hC.trans (hb.mono hC.size))) ?_; (try simp only [Act.put, List.getElem_toArray, List.getElem_cons_succ, List.getElem_cons_zero, List.setIfInBounds_toArray, List.set_cons_zero, List.set_cons_succ]))
      (refine q_val (v := .int .u32 ((wm &&& opn &&& tow : Nat) : Nat)) (by rfl) (fun w hC => by rw [← A2.out]; go_simp) ?_; (try simp only [Act.put, List.getElem_toArray, List.getElem_cons_succ, List.getElem_cons_zero, List.setIfInBounds_toArray, List.set_cons_zero, List.set_cons_succ]))
      (refine q_val (v := ?_) (by rfl) ?_ ?_; rotate_left; (· (intro w hC; go_simp; try with_reducible rfl)); (try simp only [Act.put, List.getElem_toArray, List.getElem_cons_succ, List.getElem_cons_zero, List.setIfInBounds_toArray, List.set_cons_zero, List.set_cons_succ]))
      refine wpQuiet_nil ?_
      intro w5 hC5
      have B5 := Lib.hid (B3.out.trans (hC5.mono B3.out.size))
      clear hC5
      go_wp2_with fail
      go_ret
      exact ⟨by rw [← RR.out]; rfl, B5.out⟩
end Go.Proofs.Ytpjfpcebjneblaa
end
section
namespace Go.Proofs.Ytpjfpcebjneblaa
open Go.RowKit
attribute [local irreducible] wpQuiet
set_option linter.unusedSimpArgs false
set_option linter.unusedVariables false

/-- Three tables, and the law's own block of them. -/
structure Tp (w0 : World) (i : Ix) (P : Nat) (lv : List Vl) (ls : List Se) (lf : List En) (w : World) : Prop where
  t3 : T3 w0 i lv ls lf w
  blk : Blk w P (t3A i) 55
  low : i.z3 ≤ P
section
variable {w0 w w' : World} {i : Ix} {P : Nat} {lv lv' : List Vl} {ls ls' : List Se} {lf lf' : List En}
theorem Tp.next (h : Tp w0 i P lv ls lf w) (hb : Below w.heap.size w w') : Tp w0 i P lv ls lf w' := ⟨h.t3.next hb, h.blk.below hb h.blk.lt, h.low⟩
theorem Tp.setV (h : Tp w0 i P lv ls lf w) (x : Vl) :
    Calls Try.prog 10 #[.pointer (some ⟨i.b1, 0, none⟩), vlV x] w fun e w' => e = .returned (.int .i64 (setVE lv x)) ∧ Tp w0 i P (setV lv x) ls lf w' :=
  (set_tm x h.t3.tabV (by have := h.t3.low; omega) (by have := h.t3.low; omega)).mono fun e w' ⟨q1, q2, q3⟩ => ⟨q1, h.t3.setV q2 (setV_small h.t3.smV x) q3, q3.blk h.blk (.inr (by have := h.t3.low; have := h.low; omega)), h.low⟩
theorem Tp.setS (h : Tp w0 i P lv ls lf w) (x : Se) (hx : seOk x) (hl : ls.length ≤ 100) :
    Calls Try.prog 17 #[.pointer (some ⟨i.b2, 0, none⟩), seV x] w fun e w' => e = .returned (.int .i64 (setSE ls x)) ∧ Tp w0 i P lv (setS ls x) lf w' :=
  (set_ts x hx h.t3.tabS hl (by have := h.t3.low; omega) (by have := h.t3.low; omega)).mono fun e w' ⟨q1, q2, q3⟩ => ⟨q1, h.t3.setS q2 (setS_small h.t3.smS x) q3, q3.blk h.blk (.inr (by have := h.t3.low; have := h.low; omega)), h.low⟩
theorem Tp.learn (h : Tp w0 i P lv ls lf w) (vid a : Nat) (port : Int) (ha : a < 281474976710656) :
    Calls Try.prog 19 #[.pointer (some ⟨i.b3, 0, none⟩), kyV vid a, .int .i64 port] w fun e w' => ∃ v l', e = .returned v ∧ (∃ gv full, LearnR 64 1000 lf ⟨vid, a, port, 0⟩ l' gv full ∧ v = .tuple #[.agg gv, .bool full]) ∧ Tp w0 i P lv ls l' w' :=
  (learn_tf vid a port ha (by omega) h.t3.tabF (by have := h.t3.low; omega) (by have := h.t3.low; omega)).mono fun e w' ⟨l', gv, full, q1, q2, q3, q4⟩ => ⟨_, l', q2, ⟨gv, full, q1, rfl⟩, h.t3.learn q3 q4, q4.blk h.blk (.inr h.low), h.low⟩
end
theorem i_callx {P : Program} {ops : Array Oper} {Q : Exit → Act → World → Prop} {i : Nat} {o : Oper} {a : Act} {w : World} {K : Act → World → Prop} (ho : ops[i]? = some o) (f : FuncId) (args : Array Value) (R : Value → World → Prop) (hw : Region.wanted o (yielded ops a.tmps) = true) (hv : (execOp a.eval o).run P w = .ok (.enter f args) w)
    (hc : Calls P f args w fun e w' => ∃ v, e = .returned v ∧ R v w') (h : ∀ v w', R v w' → K (a.put o.dst v) w') : wpOp P ops Q i K a w := by
  unfold wpOp
  simp only [ho, hw, if_true, Oper.wp, hv, Oper.upon]
  exact .inl (hc.mono fun e w' ⟨v, he, hr⟩ => by subst he; exact h v w' hr)
theorem s12a : setV [] ⟨5, 7, 0⟩ = [⟨5, 7, 0⟩] := by decide
theorem s12b : portsN 1 5 2 15 [⟨5, 7, 0⟩] [] [] = 6 := by decide
theorem s12c : portsN 1 5 2 15 [⟨5, 7, 0⟩] [] [⟨5, 2, 3, 0⟩] = 4 := by decide
theorem s12d {l' : List En} {gv : Array Value} {full : Bool} (h : LearnR 64 1000 [] ⟨5, 2, 3, 0⟩ l' gv full) : l' = [⟨5, 2, 3, 0⟩] := by
  rcases h with ⟨h, -⟩ | ⟨-, -, rfl, -, -⟩ | ⟨-, h, -⟩
  · exact absurd h (by decide)
  · rfl
  · exact absurd h (by decide)

set_option maxRecDepth 100000 in
set_option maxHeartbeats 8000000 in
theorem speaks12_any (w : World) : Calls Try.prog 15 #[] w fun e w' => e = .returned (.bool true) ∧ Below w.heap.size w w' := by
  have SZT := Lib.hid t3Size
  have HFI := Lib.hid (show ∀ W : World, Calls Try.prog 18 #[.int .u64 2] W fun e w' => e = .returned (mac (byteF 2)) ∧ Below W.heap.size W w' from fun W => fromInt_any 2 W)
  have RN := Lib.hid (show ∀ W : World, Blk (W.alloc (.cells #[.pointer none, .pointer none, .pointer none] 55)) W.heap.size #[.pointer none, .pointer none, .pointer none] 55 from fun W => Blk.new W _ 55)
  go_enter Try.func15, Try.ntmps15
  go_upto_region 2 with (first
    | (go_at_call 16; refine (tables_any _).mono ?_; rintro e w1 ⟨i, rfl, h1⟩))
  obtain ⟨P, hP⟩ : ∃ P, P = w1.heap.size := ⟨_, rfl⟩
  obtain ⟨w2, hw2⟩ : ∃ w2, w2 = w1.alloc (.cells (t3A i) 55) := ⟨_, rfl⟩
  have T2 := Lib.hid (show Tp w i P [] [] [] w2 from ⟨by rw [hw2]; exact h1.next ((Below.refl _ _).alloc (Nat.le_refl _) _), by rw [hw2, hP]; exact Blk.new _ _ _, by rw [hP]; exact h1.low.2.2.2.2.2.2⟩)
  rw [← hw2, ← hP]
  clear hw2 hP h1
  have d0 : w2.cell? ⟨P, 0, none⟩ = some (.pointer (some ⟨i.b1, 0, none⟩)) := T2.out.blk.cell 0
  have HS := Lib.hid (show Calls Try.prog 10 #[.pointer (some ⟨i.b1, 0, none⟩), .agg #[.int .u16 5, .int .u32 7, .int .u32 0]] w2 fun e w' => (∃ v, e = .returned v) ∧ Tp w i P [⟨5, 7, 0⟩] [] [] w' from
    (T2.out.setV ⟨5, 7, 0⟩).mono fun e w' ⟨q1, q2⟩ => ⟨⟨_, q1⟩, by rw [← s12a]; exact q2⟩)
  go_upto_region 3 with (go_at_call 10; refine HS.out.mono ?_; rintro e w3 ⟨⟨v3, rfl⟩, hT3⟩)
  have T3' := Lib.hid hT3
  clear hT3 d0
  have HP1 := Lib.hid (show ∀ W, Tp w i P [⟨5, 7, 0⟩] [] [] W → Calls Try.prog 20 #[.agg (t3A i), .int .i64 1, .int .u16 5, mac (byteF 2), .int .u32 15] W fun e w' => e = .returned (.int .u32 6) ∧ Below W.heap.size W w' from fun W hW =>
    (ports_any 1 5 2 15 (by omega) (by omega) hW.t3).mono fun e w' ⟨q1, q2⟩ => ⟨by rw [q1, s12b]; rfl, q2⟩)
  have HP2 := Lib.hid (show ∀ W, Tp w i P [⟨5, 7, 0⟩] [] [⟨5, 2, 3, 0⟩] W → Calls Try.prog 20 #[.agg (t3A i), .int .i64 1, .int .u16 5, mac (byteF 2), .int .u32 15] W fun e w' => e = .returned (.int .u32 4) ∧ Below W.heap.size W w' from fun W hW =>
    (ports_any 1 5 2 15 (by omega) (by omega) hW.t3).mono fun e w' ⟨q1, q2⟩ => ⟨by rw [q1, s12c]; rfl, q2⟩)
  refine wp_region_quiet (C := Tp w i P [⟨5, 7, 0⟩] [] []) (by kernel_rfl) (by kernel_rfl) (T3'.out.next (Below.refl _ _).drew) ?_
  (refine q_val (v := Value.agg (t3A i)) (by rfl) (fun w hC => run_loadVar_of 55 _ rfl P rfl 55 (t3A i) _ hC.blk Try.underlying55 rfl SZT.out) ?_; (try simp only [Act.put, List.getElem_toArray, List.getElem_cons_succ, List.getElem_cons_zero, List.setIfInBounds_toArray, List.set_cons_zero, List.set_cons_succ]))
  (refine q_call (v := mac (byteF 2)) 18 #[.int .u64 2] (by rfl) (fun w hC => by go_simp) (fun w hC => calls_in (HFI.out w) (fun w' hb => hC.next hb)) ?_; (try simp only [Act.put, List.getElem_toArray, List.getElem_cons_succ, List.getElem_cons_zero, List.setIfInBounds_toArray, List.set_cons_zero, List.set_cons_succ]))
  (refine q_call (v := .int .u32 6) 20 #[.agg (t3A i), .int .i64 1, .int .u16 5, mac (byteF 2), .int .u32 15] (by rfl) (fun w hC => by go_simp) (fun w hC => calls_in (HP1.out w hC) (fun w' hb => hC.next hb)) ?_; (try simp only [Act.put, List.getElem_toArray, List.getElem_cons_succ, List.getElem_cons_zero, List.setIfInBounds_toArray, List.set_cons_zero, List.set_cons_succ]))
  (refine q_val (v := ?_) (by rfl) ?_ ?_; rotate_left; (· (intro w hC; go_simp; try with_reducible rfl)); (try simp only [Act.put, List.getElem_toArray, List.getElem_cons_succ, List.getElem_cons_zero, List.setIfInBounds_toArray, List.set_cons_zero, List.set_cons_succ]))
  refine wpQuiet_nil ?_
  intro w4 hC4
  have T4 := Lib.hid hC4
  clear hC4
  go_upto_region 4 with fail
  have HLN := Lib.hid (show ∀ W, Tp w i P [⟨5, 7, 0⟩] [] [] W → Calls Try.prog 19 #[.pointer (some ⟨i.b3, 0, none⟩), .agg #[.int .u16 5, .int .u8 (byteF 2 0 : Nat), .int .u8 (byteF 2 1 : Nat), .int .u8 (byteF 2 2 : Nat), .int .u8 (byteF 2 3 : Nat), .int .u8 (byteF 2 4 : Nat), .int .u8 (byteF 2 5 : Nat)], .int .i64 3] W fun e w' => ∃ v, e = .returned v ∧ Tp w i P [⟨5, 7, 0⟩] [] [⟨5, 2, 3, 0⟩] w' from fun W hW =>
    (hW.learn 5 2 3 (by omega)).mono fun e w' ⟨v, l', q1, ⟨gv, full, q2, _⟩, q3⟩ => ⟨v, q1, by rw [← s12d q2]; exact q3⟩)
  refine wp_region_inv (I := fun L ac W => ∃ v12 v13 v14 v15 v16 : Value, ac = { tmps := #[.bool false, .pointer (some ⟨P, 0, none⟩), .int .u32 6, undef, .agg (t3A i), .pointer (some ⟨P, 0, none⟩), .pointer (some ⟨i.b1, 0, none⟩), .agg #[.int .u16 5, .int .u32 7, .int .u32 0], v3, .agg (t3A i), mac (byteF 2), .int .u32 6, v12, v13, v14, v15, v16, undef, undef, undef, undef, undef, undef, undef, undef, undef], defers := [] } ∧ (L 0 = true → v12 = .pointer (some ⟨P, 2, none⟩)) ∧ (L 1 = true → v13 = .pointer (some ⟨i.b3, 0, none⟩)) ∧ (L 2 = true → v14 = mac (byteF 2)) ∧
    (L 3 = true → v15 = .agg #[.int .u16 5, .int .u8 (byteF 2 0 : Nat), .int .u8 (byteF 2 1 : Nat), .int .u8 (byteF 2 2 : Nat), .int .u8 (byteF 2 3 : Nat), .int .u8 (byteF 2 4 : Nat), .int .u8 (byteF 2 5 : Nat)]) ∧
    (L 1 = true → L 0 = true) ∧ (L 3 = true → L 2 = true) ∧ (L 4 = false → Tp w i P [⟨5, 7, 0⟩] [] [] W) ∧ (L 4 = true → (L 0 = true ∧ L 1 = true ∧ L 2 = true ∧ L 3 = true) ∧ Tp w i P [⟨5, 7, 0⟩] [] [⟨5, 2, 3, 0⟩] W)) (by kernel_rfl) (by kernel_rfl) ⟨_, _, _, _, _, rfl, (fun h => Bool.noConfusion h), (fun h => Bool.noConfusion h), (fun h => Bool.noConfusion h), (fun h => Bool.noConfusion h), (fun h => Bool.noConfusion h), (fun h => Bool.noConfusion h), (fun _ => T4.out.next (Below.refl _ _).drew), (fun h => Bool.noConfusion h)⟩ ?_ ?_
  · rintro k hk L ac W ⟨v12, v13, v14, v15, v16, rfl, e12, e13, e14, e15, k1, k3, hF, hT⟩ hL haft
    have hno : k < 4 → L 4 = false := fun hk4 => by
      cases c : L 4 with
      | false => rfl
      | true =>
        obtain ⟨⟨q0, q1, q2, q3⟩, -⟩ := hT c
        match k, hk4 with
        | 0, _ => rw [hL] at q0; cases q0
        | 1, _ => rw [hL] at q1; cases q1
        | 2, _ => rw [hL] at q2; cases q2
        | 3, _ => rw [hL] at q3; cases q3
    match k, hk with
    | 0, _ =>
      have h4 := hno (by omega)
      exact i_val rfl (.pointer (some ⟨P, 2, none⟩)) W (by rfl) (by go_simp) ⟨_, v13, v14, v15, v16, rfl, (fun _ => rfl), e13, e14, e15, (fun _ => rfl), k3, hF, (fun q => absurd (show L 4 = true from q) (by rw [h4]; decide))⟩
    | 1, _ =>
      have h4 := hno (by omega)
      have e := e12 (haft 0 (by decide))
      subst e
      have q := (hF h4).blk.cell 2
      simp only [List.getElem?_toArray, List.getElem?_cons_zero, List.getElem?_cons_succ] at q
      exact i_val rfl (.pointer (some ⟨i.b3, 0, none⟩)) W (by rfl) (by go_simp) ⟨_, _, v14, v15, v16, rfl, e12, (fun _ => rfl), e14, e15, (fun _ => haft 0 (by decide)), k3, hF, (fun q => absurd (show L 4 = true from q) (by rw [h4]; decide))⟩
    | 2, _ =>
      have h4 := hno (by omega)
      have hW := hF h4
      exact i_call rfl (mac (byteF 2)) 18 #[.int .u64 2] (fun w' => Below W.heap.size W w') (by rfl) (by go_simp) (HFI.out W) fun w' hb => ⟨v12, v13, _, v15, v16, rfl, e12, e13, (fun _ => rfl), e15, k1, (fun _ => rfl), (fun _ => hW.next hb), (fun q => absurd (show L 4 = true from q) (by rw [h4]; decide))⟩
    | 3, _ =>
      have h4 := hno (by omega)
      have e := e14 (haft 2 (by decide))
      subst e
      exact i_val rfl (.agg #[.int .u16 5, .int .u8 (byteF 2 0 : Nat), .int .u8 (byteF 2 1 : Nat), .int .u8 (byteF 2 2 : Nat), .int .u8 (byteF 2 3 : Nat), .int .u8 (byteF 2 4 : Nat), .int .u8 (byteF 2 5 : Nat)]) W (by rfl) (by go_simp) ⟨v12, v13, _, _, v16, rfl, e12, e13, e14, (fun _ => rfl), k1, (fun _ => haft 2 (by decide)), hF, (fun q => absurd (show L 4 = true from q) (by rw [h4]; decide))⟩
    | 4, _ =>
      have h1 := haft 1 (by decide)
      have h3 := haft 3 (by decide)
      have ea := e13 h1
      have eb := e15 h3
      subst ea
      subst eb
      refine i_callx rfl 19 #[.pointer (some ⟨i.b3, 0, none⟩), .agg #[.int .u16 5, .int .u8 (byteF 2 0 : Nat), .int .u8 (byteF 2 1 : Nat), .int .u8 (byteF 2 2 : Nat), .int .u8 (byteF 2 3 : Nat), .int .u8 (byteF 2 4 : Nat), .int .u8 (byteF 2 5 : Nat)], .int .i64 3] (fun v w' => Tp w i P [⟨5, 7, 0⟩] [] [⟨5, 2, 3, 0⟩] w') (by rfl) (by go_simp) (HLN.out W (hF hL)) ?_
      intro v w' hw
      refine ⟨v12, _, v14, _, _, rfl, e12, e13, e14, e15, k1, k3, (fun q => absurd (show upd L 4 4 = true from rfl) (by rw [q]; decide)), (fun _ => ⟨⟨k1 h1, h1, k3 h3, h3⟩, hw⟩)⟩
    | k + 5, h =>
      exfalso
      have h2 : k + 5 < 5 := h
      omega
  rintro L ac W ⟨v12, v13, v14, v15, v16, rfl, e12, e13, e14, e15, k1, k3, hF, hT⟩ hall
  have T5 := Lib.hid (hT (hall 4 (by decide))).2
  clear e12 e13 e14 e15 k1 k3 hF hT hall
  go_upto_region 5 with fail
  refine wp_region_quiet (C := Tp w i P [⟨5, 7, 0⟩] [] [⟨5, 2, 3, 0⟩]) (by kernel_rfl) (by kernel_rfl) (T5.out.next (Below.refl _ _).drew) ?_
  (refine q_val (v := Value.agg (t3A i)) (by rfl) (fun w hC => run_loadVar_of 55 _ rfl P rfl 55 (t3A i) _ hC.blk Try.underlying55 rfl SZT.out) ?_; (try simp only [Act.put, List.getElem_toArray, List.getElem_cons_succ, List.getElem_cons_zero, List.setIfInBounds_toArray, List.set_cons_zero, List.set_cons_succ]))
  (refine q_call (v := mac (byteF 2)) 18 #[.int .u64 2] (by rfl) (fun w hC => by go_simp) (fun w hC => calls_in (HFI.out w) (fun w' hb => hC.next hb)) ?_; (try simp only [Act.put, List.getElem_toArray, List.getElem_cons_succ, List.getElem_cons_zero, List.setIfInBounds_toArray, List.set_cons_zero, List.set_cons_succ]))
  (refine q_call (v := .int .u32 4) 20 #[.agg (t3A i), .int .i64 1, .int .u16 5, mac (byteF 2), .int .u32 15] (by rfl) (fun w hC => by go_simp) (fun w hC => calls_in (HP2.out w hC) (fun w' hb => hC.next hb)) ?_; (try simp only [Act.put, List.getElem_toArray, List.getElem_cons_succ, List.getElem_cons_zero, List.setIfInBounds_toArray, List.set_cons_zero, List.set_cons_succ]))
  (refine q_val (v := ?_) (by rfl) ?_ ?_; rotate_left; (· (intro w hC; go_simp; try with_reducible rfl)); (try simp only [Act.put, List.getElem_toArray, List.getElem_cons_succ, List.getElem_cons_zero, List.setIfInBounds_toArray, List.set_cons_zero, List.set_cons_succ]))
  refine wpQuiet_nil ?_
  intro w6 hC6
  have T6 := Lib.hid hC6
  clear hC6
  go_wp2_with fail
  go_ret
  exact ⟨rfl, T6.out.t3.below⟩
end Go.Proofs.Ytpjfpcebjneblaa
end
