/- What package classify answers: which settings may be; has a frame a VLAN of its own; its VLAN, and what becomes of it. A frame is the same as itself. Ingress: a frame's VLAN, and what becomes of it. The developers' table of VLANs, whose sets are small: what is found in it. Structs that are built, made and stored as opaque rows; with no program in sight. Three tables beside one another. To which ports a frame goes. The first line of layer 12's statements. What EgressOnce asks of sets of ports. The bits of what egress answers of ports. How arguments are opened that are arrays of integers, or frames. How structs that came in are opened. The first line of layer 11's statements. A slice of structs that came in, as a list. No program in sight. ClassifyOpen's walk. ClassifyTells: pairs that came in, the table beside a block of the law's own; the code behind a loop. How structs that came in are opened, that hold slices of pairs. How EgressPorts' struct is opened. EgressPorts: the tables that were filled, what came in, the code behind a loop. EgressPorts: what stands behind its three loops. EgressPorts: its third loop. EgressPorts: its second loop. EgressPorts: the law from its beginning on, and its first loop. EgressPorts' walk, over arguments as they come. -/
import Derived.Test.YtpjfpcebjneblaaTab2
import Derived.Test.YtpjfpcebjneblaaFrm
import Derived.Test.YtpjfpcebjneblaaOf
import Derived.Test.YtpjfpcebjneblaaQuietly
import Derived.Test.YtpjfpcebjneblaaEq
import Derived.Test.YtpjfpcebjneblaaBks
import Derived.Test.YtpjfpcebjneblaaSet8
import Derived.Test.YtpjfpcebjneblaaSt1
import Derived.Test.YtpjfpcebjneblaaFb4
import Derived.Test.YtpjfpcebjneblaaOpen
import Derived.Deep.Slices
import Derived.OpenShut
import Derived.Below
import Derived.WalkKit
import Derived.ProofKit
import Derived.Deep.DeepCutAuto
import Derived.Test.YtpjfpcebjneblaaLits
section
namespace Go.Proofs.Ytpjfpcebjneblaa
open Go.RowKit
attribute [local irreducible] wpQuiet
set_option linter.unusedSimpArgs false
set_option linter.unusedVariables false

/-- A port's settings. -/
abbrev poA (pv : Nat) (ac : Int) (fi : Bool) : Array Value := #[.int .u16 (pv : Nat), .int .i64 ac, .bool fi]
theorem poSize : (Try.prog.info? 30).map (·.size) = some 3 := by kernel_rfl
theorem po_one (pv : Nat) (ac : Int) (fi : Bool) : (poA pv ac fi).all (·.oneCell') = true := by simp [Value.oneCell']

/-- May they be? -/
def poOk (pv : Nat) (ac : Int) : Bool := decide (1 ≤ pv) && decide (pv ≤ 4094) && decide (0 ≤ ac) && decide (ac ≤ 2)
theorem good_port (pv : Nat) (ac : Int) (fi : Bool) (w : World) : Calls Try.prog 11 #[.agg (poA pv ac fi)] w fun e w' => e = .returned (.bool (poOk pv ac)) ∧ Below w.heap.size w w' := by
  have HB := Lib.hid ((Below.refl w.heap.size w).alloc (Nat.le_refl _) (.cells (poA pv ac fi) 30))
  cases h1 : decide ((1 : Int) ≤ (pv : Int)) with
  | false =>
    have R := Lib.hid (show false = poOk pv ac by unfold poOk; rw [decide_eq_false (show ¬ 1 ≤ pv by have := of_decide_eq_false h1; omega)]; rfl)
    go_enter Try.func11, Try.ntmps11
    go_wp2
    go_ret
    exact ⟨ret_bool R.out, HB.out⟩
  | true =>
    cases h2 : decide ((pv : Int) ≤ 4094) with
    | false =>
      have R := Lib.hid (show false = poOk pv ac by unfold poOk; rw [decide_eq_false (show ¬ pv ≤ 4094 by have := of_decide_eq_false h2; omega), Bool.and_false]; rfl)
      go_enter Try.func11, Try.ntmps11
      go_wp2
      go_ret
      exact ⟨ret_bool R.out, HB.out⟩
    | true =>
      cases h3 : decide (0 ≤ ac) with
      | false =>
        have R := Lib.hid (show false = poOk pv ac by unfold poOk; rw [h3, Bool.and_false]; rfl)
        go_enter Try.func11, Try.ntmps11
        go_wp2
        go_ret
        exact ⟨ret_bool R.out, HB.out⟩
      | true =>
        have R := Lib.hid (show decide (ac ≤ 2) = poOk pv ac by
          unfold poOk
          rw [h3, decide_eq_true (show 1 ≤ pv by have := of_decide_eq_true h1; omega), decide_eq_true (show pv ≤ 4094 by have := of_decide_eq_true h2; omega)]
          rfl)
        go_enter Try.func11, Try.ntmps11
        go_wp2
        go_ret
        exact ⟨ret_bool R.out, HB.out⟩

/-- Has it a VLAN of its own? -/
def ownB (tg : Bool) (vi : Nat) : Bool := tg && decide (vi ≠ 0)
theorem own_any (arr : Array Value) (tg : Bool) (vi : Nat) (a12 : arr[12]? = some (.bool tg)) (a15 : arr[15]? = some (.int .u16 (vi : Nat))) (w : World) :
    Calls Try.prog 32 #[.agg arr] w fun e w' => e = .returned (.bool (ownB tg vi)) ∧ Below w.heap.size w w' := by
  have HB := Lib.hid ((Below.refl w.heap.size w).alloc (Nat.le_refl _) (.cells arr 46))
  have e1 : ((vi : Int) != 0) = decide (vi ≠ 0) := by rw [Bool.eq_iff_iff]; simp
  cases tg with
  | true =>
    have R := Lib.hid (show decide (vi ≠ 0) = ownB true vi from rfl)
    obtain ⟨b, hb⟩ : ∃ b : Bool, decide (vi ≠ 0) = b := ⟨_, rfl⟩
    rw [hb] at e1
    have hbR := Lib.hid hb
    clear hb
    go_enter Try.func32, Try.ntmps32
    go_wp2
    all_goals
      go_ret
      exact ⟨ret_bool (by rw [← R.out, hbR.out]), HB.out⟩
  | false =>
    clear e1
    go_enter Try.func32, Try.ntmps32
    go_wp2
    go_ret
    exact ⟨rfl, HB.out⟩

/-- Does a port take such frames? -/
def accB (ac : Int) (own : Bool) : Bool := if ac = 1 then own else if ac = 2 then !own else true
theorem accepts_any (pv : Nat) (ac : Int) (fi own : Bool) (w : World) : Calls Try.prog 33 #[.agg (poA pv ac fi), .bool own] w fun e w' => e = .returned (.bool (accB ac own)) ∧ Below w.heap.size w w' := by
  have HB := Lib.hid ((Below.refl w.heap.size w).alloc (Nat.le_refl _) (.cells (poA pv ac fi) 30))
  by_cases h1 : ac = 1
  · subst h1
    go_enter Try.func33, Try.ntmps33
    go_wp2
    go_ret
    exact ⟨rfl, HB.out⟩
  · by_cases h2 : ac = 2
    · subst h2
      go_enter Try.func33, Try.ntmps33
      go_wp2
      go_ret
      exact ⟨rfl, HB.out⟩
    · have e1 : (ac == 1) = false := by simpa using h1
      have e2 : (ac == 2) = false := by simpa using h2
      have R := Lib.hid (show true = accB ac own by unfold accB; rw [if_neg h1, if_neg h2])
      clear h1 h2
      go_enter Try.func33, Try.ntmps33
      go_wp2
      go_ret
      exact ⟨ret_bool R.out, HB.out⟩
end Go.Proofs.Ytpjfpcebjneblaa
end
section
namespace Go.Proofs.Ytpjfpcebjneblaa
open Go.RowKit

set_option maxRecDepth 100000 in
set_option maxHeartbeats 1000000 in
theorem equal_frame (d s : Nat → Nat) (tg : Bool) (pc : Nat) (de : Bool) (vi ty : Nat) (da : ByteArray) (w : World) :
    (Op.equalIn 10000 46 (.agg (frA d s tg pc de vi ty da)) (.agg (frA d s tg pc de vi ty da))).run Try.prog w = .ok true w := by
  have hS : Try.prog.underlying 46 = some (.struct (Try.prog.fieldsOf 46)) := by kernel_rfl
  have hp : Try.prog.stoodInHeld 46 = false := by kernel_rfl
  rw [show (10000 : Nat) = 9999 + 1 from rfl, run_equalIn_agg w 9999 46 _ _ hS hp]
  simp only [Program.fieldsOf, Try.underlying46]
  have u5 := Try.underlying5
  have u4 := Try.underlying4
  have u9 := Try.underlying9
  have u40 := Try.underlying22
  have e1 : ∀ W, (Op.equalIn 9999 44 (mac d) (mac d)).run Try.prog W = .ok true W := fun W => by rw [equal_mac 9997 44 Try.underlying44, eqMac_self]
  have e2 : ∀ W, (Op.equalIn 9999 44 (mac s) (mac s)).run Try.prog W = .ok true W := fun W => by rw [equal_mac 9997 44 Try.underlying44, eqMac_self]
  go_simp
end Go.Proofs.Ytpjfpcebjneblaa
end
section
namespace Go.Proofs.Ytpjfpcebjneblaa
open Go.RowKit
attribute [local irreducible] wpQuiet
set_option linter.unusedSimpArgs false
set_option linter.unusedVariables false

/-- What becomes of it: its settings, whether it has a VLAN of its own, whether there is its VLAN, whether the port is a member. -/
def ingC (ac : Int) (fi own found mem : Bool) : Int := if accB ac own = false then 1 else if found = false then 2 else if fi = true ∧ mem = false then 3 else 0
def ingV (vid : Nat) (c : Int) : Nat := if c = 0 then vid else 0
theorem ret_ing {a b : Nat} {c d : Int} (h : a = b) (g : c = d) : Ending.returned (.tuple #[.int .u16 (a : Nat), .int .i64 c]) = .returned (.tuple #[.int .u16 (b : Nat), .int .i64 d]) := by rw [h, g]

set_option maxRecDepth 100000 in
set_option maxHeartbeats 4000000 in
theorem ingress_any (pv : Nat) (ac : Int) (fi : Bool) (no : Int) (arr : Array Value) (tg : Bool) (vi : Nat) (a12 : arr[12]? = some (.bool tg)) (a15 : arr[15]? = some (.int .u16 (vi : Nat))) (hsz : arr.size = 18)
    (tv : Value) (x : Vl) (hm : x.mem < 4294967296) (found : Bool) (w : World)
    (hget : ∀ W, Below w.heap.size w W → Calls Try.prog 12 #[tv, .int .u16 ((if ownB tg vi then vi else pv : Nat) : Nat)] W fun e w' => e = .returned (.tuple #[vlV x, .bool found]) ∧ Below W.heap.size W w') :
    Calls Try.prog 14 #[.agg (poA pv ac fi), .int .i64 no, .agg arr, tv] w fun e w' =>
      e = .returned (.tuple #[.int .u16 (ingV (if ownB tg vi then vi else pv) (ingC ac fi (ownB tg vi) found (hasB x.mem no)) : Nat), .int .i64 (ingC ac fi (ownB tg vi) found (hasB x.mem no))]) ∧ Below w.heap.size w w' := by
  obtain ⟨xv, m, u⟩ := x
  simp only at hm ⊢
  obtain ⟨G, hG⟩ : ∃ G, G = w.heap.size := ⟨_, rfl⟩
  obtain ⟨w1, hw1⟩ : ∃ w1, w1 = (w.alloc (.cells (poA pv ac fi) 30)).alloc (.cells arr 46) := ⟨_, rfl⟩
  have hb1 : Below w.heap.size w w1 := by rw [hw1]; exact ((Below.refl w.heap.size w).alloc (Nat.le_refl _) _).alloc (by simp) _
  have hp1 : Blk w1 G (poA pv ac fi) 30 := by rw [hw1, hG]; exact (Blk.new _ _ _).alloc _
  have hf1 : Blk w1 (G + 1) arr 46 := by
    have := Blk.new (w.alloc (.cells (poA pv ac fi) 30)) arr 46
    rw [hw1, hG]
    simpa using this
  obtain ⟨own, hown⟩ : ∃ own, own = ownB tg vi := ⟨_, rfl⟩
  obtain ⟨vid, hvid⟩ : ∃ vid, vid = (if ownB tg vi then vi else pv : Nat) := ⟨_, rfl⟩
  obtain ⟨has, hhas⟩ : ∃ has, has = hasB m no := ⟨_, rfl⟩
  obtain ⟨acc, hacc⟩ : ∃ acc, acc = accB ac own := ⟨_, rfl⟩
  rw [← hvid] at hget
  rw [← hown, ← hhas, show (if own = true then vi else pv) = vid by rw [hvid, hown]]
  obtain ⟨C, hC⟩ : ∃ C, C = ingC ac fi own found has := ⟨_, rfl⟩
  rw [← hC]
  have HGET := Lib.hid hget
  have HG := Lib.hid hG
  have HW := Lib.hid hw1
  have HB1 := Lib.hid hb1
  have HP := Lib.hid (show ∀ w', Below w1.heap.size w1 w' → Blk w' G (poA pv ac fi) 30 from fun w' hb => hp1.below hb hp1.lt)
  have HF := Lib.hid (show ∀ w', Below w1.heap.size w1 w' → Blk w' (G + 1) arr 46 from fun w' hb => hf1.below hb hf1.lt)
  have SZ := Lib.hid (show (Try.prog.info? 46).map (·.size) = some arr.size by rw [hsz]; exact size52)
  have SZP := Lib.hid poSize
  have OWN := Lib.hid (show ∀ W : World, Calls Try.prog 32 #[.agg arr] W fun e w' => e = .returned (.bool own) ∧ Below W.heap.size W w' from fun W => by rw [hown]; exact own_any arr tg vi a12 a15 W)
  have ACC := Lib.hid (show ∀ W : World, Calls Try.prog 33 #[.agg (poA pv ac fi), .bool own] W fun e w' => e = .returned (.bool acc) ∧ Below W.heap.size W w' from fun W => by rw [hacc]; exact accepts_any pv ac fi own W)
  have HAS := Lib.hid (show ∀ W : World, Calls Try.prog 13 #[.int .u32 (m : Nat), .int .i64 no] W fun e w' => e = .returned (.bool has) ∧ W = w' from fun W => by rw [hhas]; exact has_any m no W hm)
  have HC15 := Lib.hid (show ∀ w', Below w1.heap.size w1 w' → w'.cell? ⟨G + 1, 15, none⟩ = some (.int .u16 (vi : Nat)) from fun w' hb => by rw [(hf1.below hb hf1.lt).cell]; exact a15)
  have HC0 := Lib.hid (show ∀ w', Below w1.heap.size w1 w' → w'.cell? ⟨G, 0, none⟩ = some (.int .u16 (pv : Nat)) from fun w' hb => by rw [(hp1.below hb hp1.lt).cell]; rfl)
  have HC2 := Lib.hid (show ∀ w', Below w1.heap.size w1 w' → w'.cell? ⟨G, 2, none⟩ = some (.bool fi) from fun w' hb => by rw [(hp1.below hb hp1.lt).cell]; rfl)
  have HV := Lib.hid (show ((own = true ∧ vid = vi) ∨ (own = false ∧ vid = pv)) from by
    rw [hvid, hown]
    cases ownB tg vi
    · exact .inr ⟨rfl, rfl⟩
    · exact .inl ⟨rfl, rfl⟩)
  have RC := Lib.hid (show C = if acc = false then 1 else if found = false then 2 else if fi = true ∧ has = false then 3 else 0 by rw [hC]; unfold ingC; rw [hacc])
  clear hC hw1 hb1 hp1 hf1 hown hvid hhas hacc hget hG a12 a15 hsz hm
  have key : ∀ (c : Int) (v : Nat) (W : World), c = C → v = ingV vid c → Below w1.heap.size w1 W → Ending.returned (.tuple #[.int .u16 (v : Nat), .int .i64 c]) = .returned (.tuple #[.int .u16 (ingV vid C : Nat), .int .i64 C]) ∧ Below w.heap.size w W := fun c v W h1 h2 h3 => by
    subst h1
    subst h2
    exact ⟨rfl, HB1.out.trans (h3.mono HB1.out.size)⟩
  have KEY := Lib.hid key
  clear key
  go_enter Try.func14, Try.ntmps14
  go_upto_region 1 with fail
  rw [← HW.out, ← HG.out]
  refine wp_region_quiet (C := Below w1.heap.size w1) (by kernel_rfl) (by kernel_rfl) (Below.refl _ _).drew ?_
  (refine q_val (v := .agg arr) (by rfl) (fun w hC => run_loadVar_of 46 _ rfl (G + 1) rfl 46 arr _ (HF.out w hC) Try.underlying46 rfl SZ.out) ?_; (try simp only [Act.put, List.getElem_toArray, List.getElem_cons_succ, List.getElem_cons_zero, List.setIfInBounds_toArray, List.set_cons_zero, List.set_cons_succ]))
  (refine q_call (v := .bool own) 32 #[.agg arr] (by rfl) (fun w hC => by go_simp) (fun w hC => calls_in (OWN.out w) (fun w' hb => hC.trans (hb.mono hC.size))) ?_; (try simp only [Act.put, List.getElem_toArray, List.getElem_cons_succ, List.getElem_cons_zero, List.setIfInBounds_toArray, List.set_cons_zero, List.set_cons_succ]))
  (refine q_val (v := ?_) (by rfl) ?_ ?_; rotate_left; (· (intro w hC; go_simp; try with_reducible rfl)); (try simp only [Act.put, List.getElem_toArray, List.getElem_cons_succ, List.getElem_cons_zero, List.setIfInBounds_toArray, List.set_cons_zero, List.set_cons_succ]))
  (refine q_val (v := ?_) (by rfl) ?_ ?_; rotate_left; (· (intro w hC; have q := HC0.out w hC; go_simp; try with_reducible rfl)); (try simp only [Act.put, List.getElem_toArray, List.getElem_cons_succ, List.getElem_cons_zero, List.setIfInBounds_toArray, List.set_cons_zero, List.set_cons_succ]))
  (refine q_val (v := ?_) (by rfl) ?_ ?_; rotate_left; (· (intro w hC; go_simp; try with_reducible rfl)); (try simp only [Act.put, List.getElem_toArray, List.getElem_cons_succ, List.getElem_cons_zero, List.setIfInBounds_toArray, List.set_cons_zero, List.set_cons_succ]))
  (refine q_val (v := ?_) (by rfl) ?_ ?_; rotate_left; (· (intro w hC; go_simp; try with_reducible rfl)); (try simp only [Act.put, List.getElem_toArray, List.getElem_cons_succ, List.getElem_cons_zero, List.setIfInBounds_toArray, List.set_cons_zero, List.set_cons_succ]))
  refine wpQuiet_nil ?_
  intro w5 hC5
  have K5 := Lib.hid hC5
  clear hC5
  have HXX := Lib.hid (show ∀ (W6 W7 : World) , Below w5.heap.size w5 W6 → W7 = W6.alloc (.cells #[.int .u16 (xv : Nat), .int .u32 (m : Nat), .int .u32 (u : Nat)] 37) → Below w1.heap.size w1 W7 ∧ Blk W7 W6.heap.size #[.int .u16 (xv : Nat), .int .u32 (m : Nat), .int .u32 (u : Nat)] 37 from fun W6 W7 h1 h2 => by
    rw [h2]
    exact ⟨(K5.out.trans (h1.mono K5.out.size)).alloc (Nat.le_trans K5.out.size h1.size) _, Blk.new _ _ _⟩)
  rcases HV.out with ⟨ho, hv⟩ | ⟨ho, hv⟩
  all_goals
    subst ho
    subst hv
    have q15 := HC15.out w5 K5.out
    go_upto_region 4 with fail
    clear q15
    go_upto_region 5 with (go_at_call 12; refine (HGET.out w5 (HB1.out.trans (K5.out.mono HB1.out.size))).mono ?_; rintro e w6 ⟨rfl, hb6⟩)
    obtain ⟨W7, hW7⟩ : ∃ W7, W7 = w6.alloc (.cells #[.int .u16 (xv : Nat), .int .u32 (m : Nat), .int .u32 (u : Nat)] 37) := ⟨_, rfl⟩
    obtain ⟨b7, k7⟩ := HXX.out w6 W7 hb6 hW7
    rw [← hW7]
    obtain ⟨g7, hg7⟩ : ∃ g7, g7 = w6.heap.size := ⟨_, rfl⟩
    rw [← hg7] at k7 ⊢
    clear hW7 hb6 hg7
    have B7 := Lib.hid b7
    have K7 := Lib.hid k7
    have q0 := HC0.out W7 b7
    have q1 : W7.cell? ⟨G, 1, none⟩ = some (.int .i64 ac) := by rw [(HP.out W7 b7).cell]; rfl
    have q2 := HC2.out W7 b7
    clear b7 k7
    cases acc with
    | false =>
      have R := Lib.hid (show (1 : Int) = C by rw [RC.out]; rfl)
      clear RC
      go_wp2_with (go_at_call 33; refine (ACC.out _).mono ?_; rintro e w8 ⟨rfl, hb8⟩; have B8 := Lib.hid hb8; clear hb8)
      go_ret2
      exact KEY.out 1 0 _ R.out rfl (B7.out.trans (B8.out.mono B7.out.size))
    | true =>
      go_upto_region 7 with (go_at_call 33; refine (ACC.out _).mono ?_; rintro e w8 ⟨rfl, hb8⟩)
      have B8 := Lib.hid (B7.out.trans (hb8.mono B7.out.size))
      have q21 : w8.cell? ⟨G, 2, none⟩ = some (.bool fi) := HC2.out w8 B8.out
      have q22 : w8.cell? ⟨g7, 1, none⟩ = some (.int .u32 (m : Nat)) := by rw [(K7.out.below hb8 K7.out.lt).cell]; rfl
      clear hb8 q0 q1 q2
      cases found with
      | false =>
        have R := Lib.hid (show (2 : Int) = C by rw [RC.out]; rfl)
        clear RC
        go_wp2_with fail
        go_ret2
        exact KEY.out 2 0 _ R.out rfl B8.out
      | true =>
        cases fi with
        | false =>
          have R := Lib.hid (show (0 : Int) = C by rw [RC.out]; rfl)
          clear RC
          go_wp2_with fail
          go_ret2
          exact KEY.out 0 _ _ R.out rfl B8.out
        | true =>
          cases has with
          | false =>
            have R := Lib.hid (show (3 : Int) = C by rw [RC.out]; rfl)
            clear RC
            go_wp2_with (go_at_call 13; refine (HAS.out _).mono ?_; rintro e w9 ⟨rfl, rfl⟩)
            go_ret2
            exact KEY.out 3 0 _ R.out rfl B8.out
          | true =>
            have R := Lib.hid (show (0 : Int) = C by rw [RC.out]; rfl)
            clear RC
            go_wp2_with (go_at_call 13; refine (HAS.out _).mono ?_; rintro e w9 ⟨rfl, rfl⟩)
            go_ret2
            exact KEY.out 0 _ _ R.out rfl B8.out
end Go.Proofs.Ytpjfpcebjneblaa
end
section
namespace Go.Proofs.Ytpjfpcebjneblaa
open Go.RowKit
set_option linter.unusedSimpArgs false
set_option linter.unusedVariables false

/-- What is found for a number. -/
def findV (vid : Nat) (l : List Vl) : Vl × Bool := if atV vid l < 0 then (⟨0, 0, 0⟩, false) else (l.getD (atV vid l).toNat ⟨0, 0, 0⟩, true)
def Small (l : List Vl) : Prop := ∀ y ∈ l, y.mem < 65536 ∧ y.unt < 65536
theorem findV_small {l : List Vl} (h : Small l) (vid : Nat) : (findV vid l).1.mem < 65536 ∧ (findV vid l).1.unt < 65536 := by
  unfold findV
  split
  · exact ⟨by decide, by decide⟩
  · simp only [List.getD_eq_getElem?_getD]
    cases hg : l[(atV vid l).toNat]? with
    | none => exact ⟨by simp, by simp⟩
    | some y => exact h y (List.mem_of_getElem? hg)
theorem findV_nil (vid : Nat) : findV vid [] = (⟨0, 0, 0⟩, false) := rfl
theorem findV_one (x : Vl) : findV x.vid [x] = (x, true) := by simp [findV, atV]
theorem goodV_small {x : Vl} (h : goodV x = 0) : x.mem < 65536 ∧ x.unt < 65536 := by
  unfold goodV at h
  split at h
  · cases h
  · split at h
    · cases h
    · omega
theorem setV_small {l : List Vl} (h : Small l) (x : Vl) : Small (setV l x) := by
  unfold setV
  split
  · exact h
  · rename_i hg
    have hx := goodV_small (show goodV x = 0 by simpa using hg)
    split
    · intro y hy
      rcases List.mem_or_eq_of_mem_set hy with h1 | h1
      · exact h y h1
      · rw [h1]; exact hx
    · split
      · exact h
      · intro y hy
        simp only [List.mem_append, List.mem_cons, List.not_mem_nil, or_false] at hy
        rcases hy with (h1 | h1) | h1
        · exact h y (List.mem_of_mem_take h1)
        · rw [h1]; exact hx
        · exact h y (List.mem_of_mem_drop h1)

theorem get_find {w : World} {b A B : Nat} {l : List Vl} (vid : Nat) (h : TM w b A B l) :
    Calls Try.prog 12 #[.pointer (some ⟨b, 0, none⟩), .int .u16 (vid : Nat)] w fun e w' => e = .returned (.tuple #[vlV (findV vid l).1, .bool (findV vid l).2]) ∧ Below w.heap.size w w' :=
  (get_tm vid h).mono fun e w' ⟨hb, hr⟩ => by
    refine ⟨?_, hb⟩
    rcases hr with ⟨h1, h2⟩ | ⟨k, x, h1, h2, h3⟩
    · rw [h2]; unfold findV; rw [if_pos (by rw [h1]; omega)]; rfl
    · rw [h3]; unfold findV; rw [if_neg (by rw [h1]; omega), h1]; simp [h2]
theorem vl_info : (Try.prog.info? 37).map (·.size) = some 3 := by kernel_rfl
theorem get_none (w : World) (vid : Nat) : Calls Try.prog 12 #[.pointer none, .int .u16 (vid : Nat)] w fun e w' => e = .returned (.tuple #[vlV ⟨0, 0, 0⟩, .bool false]) ∧ Below w.heap.size w w' := by
  have HB := Lib.hid ((Below.refl w.heap.size w).alloc (Nat.le_refl _) (.cells vlNilA 37))
  have hz := zero48
  go_enter Try.func12, Try.ntmps12
  go_wp2
  exact bodyPost_ret (v := .tuple #[.agg vlNilA, .bool false]) (results_row_tmp Try.results12 _ _ w.heap.size 37 vlNilA _ _ rfl rfl (Blk.new w vlNilA 37) Try.underlying37 rfl vl_info) rfl ⟨rfl, HB.out⟩

/-- The table alone. -/
structure OneV (w0 : World) (b A B : Nat) (l : List Vl) (w : World) : Prop where
  tab : TM w b A B l
  low : w0.heap.size ≤ A ∧ A ≤ B ∧ B ≤ w.heap.size
  below : Below w0.heap.size w0 w
section
variable {w0 w w' : World} {b A B : Nat} {l l' : List Vl}
theorem OneV.next (h : OneV w0 b A B l w) (hb : Below w.heap.size w w') : OneV w0 b A B l w' :=
  ⟨h.tab.keep (fun k _ hk => hb.block k (by have := h.low; omega)), ⟨h.low.1, h.low.2.1, by have := h.low; have := hb.size; omega⟩, h.below.trans (hb.mono (by have := h.low; omega))⟩
theorem OneV.after (h : OneV w0 b A B l w) (ht : TM w' b A B l') (hk : KeptO A B w w') : OneV w0 b A B l' w' := by
  have h1 := h.low
  have h2 := hk.size
  exact ⟨ht, ⟨h1.1, h1.2.1, by omega⟩, h.below.trans ((hk.below (by omega)).mono h1.1)⟩
theorem OneV.setCell (h : OneV w0 b A B l w) {a : Addr} (ha : B ≤ a.block) (u : Value) : OneV w0 b A B l (w.setCell a u) :=
  ⟨h.tab.keep (fun k _ hk => Below.heap_setCell w a u k (by omega)), ⟨h.low.1, h.low.2.1, by have := h.low; simpa using this.2.2⟩, h.below.setCell (by have := h.low; omega) u⟩
theorem OneV.start {w1 w2 : World} (hb1 : Below w0.heap.size w0 w1) (ht : TM w2 b w1.heap.size w2.heap.size l) (hb2 : Below w1.heap.size w1 w2) : OneV w0 b w1.heap.size w2.heap.size l w2 :=
  ⟨ht, ⟨hb1.size, hb2.size, Nat.le_refl _⟩, hb1.trans (hb2.mono hb1.size)⟩
end
end Go.Proofs.Ytpjfpcebjneblaa
end
section
namespace Go.Proofs.Ytpjfpcebjneblaa
open Go.RowKit

/-- A struct that is built of some parts. -/
theorem run_build_of {P : Program} {o : Oper} {a : Act} {w : World} (t : TypeId) (parts : List (Nat × Operand)) (ho : o.op = .build t parts.toArray) (vals : List (Nat × Value)) (arr : Array Value)
    (hv : parts.map (fun x => (x.1, a.eval x.2)) = vals) (hb : P.built t vals = some arr) : (execOp a.eval o).run P w = .ok (.value (.agg arr)) w := by
  subst hv
  have e : (Array.map (fun x => (x.1, a.eval x.2)) parts.toArray).toList = parts.map (fun x => (x.1, a.eval x.2)) := by simp
  rw [← e] at hb
  unfold execOp
  simp only [ho, Sem.run_bind, run_build w t _ arr hb, Result.andThen_ok, Sem.run_pure]

/-- A struct that is made. -/
theorem wpList_alloc {P : Program} {ops : Array Oper} {Q : Exit → Act → World → Prop} {a : Act} {w : World} {rest : List Oper} {o : Oper} (t : TypeId) (ho : o.op = .alloc t) (hw : Region.wanted o (yielded ops a.tmps) = true) (z : Array Value)
    (hz : ∀ W : World, (zeroValue t).run P W = .ok (.agg z) W) (h : wpList P ops Q rest (a.put o.dst (.pointer (some ⟨w.heap.size, 0, none⟩))) (w.alloc (.cells z t))) : wpList P ops Q (o :: rest) a w := by
  refine BigFrame.wpList_want hw fun K hK => ?_
  unfold Oper.wp execOp
  simp only [ho, Instr.alloc, Sem.run_bind, hz, Result.andThen_ok, newVar, Sem.run_pure]
  exact hK _ _ h
end Go.Proofs.Ytpjfpcebjneblaa
end
section
namespace Go.Proofs.Ytpjfpcebjneblaa
open Go.RowKit
set_option linter.unusedSimpArgs false
set_option linter.unusedVariables false

/-- What is found for a key. -/
def findS (v : Nat) (l : List Se) : Nat × Bool := if atK seK v l < 0 then (0, false) else ((l.getD (atK seK v l).toNat ⟨0, 0, 0⟩).prt, true)
def findF (v : Nat) (l : List En) : Int × Bool := if atK enK v l < 0 then (0, false) else ((l.getD (atK enK v l).toNat ⟨0, 0, 0, 0⟩).port, true)
theorem get_s {w : World} {b A B : Nat} {l : List Se} (vid a : Nat) (ha : a < 281474976710656) (h : TS w b A B l) :
    Calls Try.prog 21 #[.pointer (some ⟨b, 0, none⟩), kyV vid a] w fun e w' => e = .returned (.tuple #[.int .u32 ((findS (keyN vid a) l).1 : Nat), .bool (findS (keyN vid a) l).2]) ∧ Below w.heap.size w w' :=
  (get_ts vid a ha h).mono fun e w' ⟨hb, hr⟩ => by
    refine ⟨?_, hb⟩
    unfold findS
    rcases hr with ⟨h1, h2⟩ | ⟨k, x, h1, h2, h3⟩
    · rw [h2, if_pos (by rw [h1]; omega)]; rfl
    · rw [h3, if_neg (by rw [h1]; omega), h1]; simp [h2]
theorem find_f {w : World} {b A B : Nat} {mo li : Int} {l : List En} (vid a : Nat) (ha : a < 281474976710656) (h : TF w b A B mo li l) :
    Calls Try.prog 22 #[.pointer (some ⟨b, 0, none⟩), kyV vid a] w fun e w' => e = .returned (.tuple #[.int .i64 (findF (keyN vid a) l).1, .bool (findF (keyN vid a) l).2]) ∧ Below w.heap.size w w' :=
  (find_tf vid a ha h).mono fun e w' ⟨hb, hr⟩ => by
    refine ⟨?_, hb⟩
    unfold findF
    rcases hr with ⟨h1, h2⟩ | ⟨k, x, h1, h2, h3⟩
    · rw [h2, if_pos (by rw [h1]; omega)]
    · rw [h3, if_neg (by rw [h1]; omega), h1]; simp [h2]
def SmallS (l : List Se) : Prop := ∀ y ∈ l, y.prt < 65536
theorem findS_small {l : List Se} (h : SmallS l) (v : Nat) : (findS v l).1 < 65536 := by
  unfold findS
  split
  · decide
  · simp only [List.getD_eq_getElem?_getD]
    cases hg : l[(atK seK v l).toNat]? with
    | none => simp
    | some y => exact h y (List.mem_of_getElem? hg)

/-- Where they lie. -/
structure Ix where
  b1 : Nat
  a1 : Nat
  z1 : Nat
  b2 : Nat
  a2 : Nat
  z2 : Nat
  b3 : Nat
  a3 : Nat
  z3 : Nat
structure T3 (w0 : World) (i : Ix) (lv : List Vl) (ls : List Se) (lf : List En) (w : World) : Prop where
  tabV : TM w i.b1 i.a1 i.z1 lv
  tabS : TS w i.b2 i.a2 i.z2 ls
  tabF : TF w i.b3 i.a3 i.z3 64 1000 lf
  low : w0.heap.size ≤ i.a1 ∧ i.a1 ≤ i.z1 ∧ i.z1 ≤ i.a2 ∧ i.a2 ≤ i.z2 ∧ i.z2 ≤ i.a3 ∧ i.a3 ≤ i.z3 ∧ i.z3 ≤ w.heap.size
  below : Below w0.heap.size w0 w
  smV : Small lv
  smS : SmallS ls
section
variable {w0 w w' : World} {i : Ix} {lv lv' : List Vl} {ls ls' : List Se} {lf lf' : List En}
theorem T3.next (h : T3 w0 i lv ls lf w) (hb : Below w.heap.size w w') : T3 w0 i lv ls lf w' := by
  have hl := h.low
  have hs := hb.size
  exact ⟨h.tabV.keep (fun k _ hk => hb.block k (by omega)), h.tabS.keep (fun k _ hk => hb.block k (by omega)), h.tabF.keep (fun k _ hk => hb.block k (by omega)), ⟨hl.1, hl.2.1, hl.2.2.1, hl.2.2.2.1, hl.2.2.2.2.1, hl.2.2.2.2.2.1, by omega⟩, h.below.trans (hb.mono (by omega)), h.smV, h.smS⟩
theorem T3.setV (h : T3 w0 i lv ls lf w) (ht : TM w' i.b1 i.a1 i.z1 lv') (hs : Small lv') (hk : KeptO i.a1 i.z1 w w') : T3 w0 i lv' ls lf w' := by
  have hl := h.low
  have hz := hk.size
  exact ⟨ht, h.tabS.keep (fun k hk1 hk2 => hk.block k (.inr (by omega)) (by omega)), h.tabF.keep (fun k hk1 hk2 => hk.block k (.inr (by omega)) (by omega)), ⟨hl.1, hl.2.1, hl.2.2.1, hl.2.2.2.1, hl.2.2.2.2.1, hl.2.2.2.2.2.1, by omega⟩, h.below.trans ((hk.below (by omega)).mono hl.1), hs, h.smS⟩
theorem T3.setS (h : T3 w0 i lv ls lf w) (ht : TS w' i.b2 i.a2 i.z2 ls') (hs : SmallS ls') (hk : KeptO i.a2 i.z2 w w') : T3 w0 i lv ls' lf w' := by
  have hl := h.low
  have hz := hk.size
  exact ⟨h.tabV.keep (fun k hk1 hk2 => hk.block k (.inl (by omega)) (by omega)), ht, h.tabF.keep (fun k hk1 hk2 => hk.block k (.inr (by omega)) (by omega)), ⟨hl.1, hl.2.1, hl.2.2.1, hl.2.2.2.1, hl.2.2.2.2.1, hl.2.2.2.2.2.1, by omega⟩, h.below.trans ((hk.below (by omega)).mono (by omega)), h.smV, hs⟩
theorem T3.learn (h : T3 w0 i lv ls lf w) (ht : TF w' i.b3 i.a3 i.z3 64 1000 lf') (hk : KeptO i.a3 i.z3 w w') : T3 w0 i lv ls lf' w' := by
  have hl := h.low
  have hz := hk.size
  exact ⟨h.tabV.keep (fun k hk1 hk2 => hk.block k (.inl (by omega)) (by omega)), h.tabS.keep (fun k hk1 hk2 => hk.block k (.inl (by omega)) (by omega)), ht, ⟨hl.1, hl.2.1, hl.2.2.1, hl.2.2.2.1, hl.2.2.2.2.1, hl.2.2.2.2.2.1, by omega⟩, h.below.trans ((hk.below (by omega)).mono (by omega)), h.smV, h.smS⟩
theorem T3.setCell (h : T3 w0 i lv ls lf w) {a : Addr} (ha : i.z3 ≤ a.block) (u : Value) : T3 w0 i lv ls lf (w.setCell a u) := by
  have hl := h.low
  exact ⟨h.tabV.keep (fun k _ hk => Below.heap_setCell w a u k (by omega)), h.tabS.keep (fun k _ hk => Below.heap_setCell w a u k (by omega)), h.tabF.keep (fun k _ hk => Below.heap_setCell w a u k (by omega)), ⟨hl.1, hl.2.1, hl.2.2.1, hl.2.2.2.1, hl.2.2.2.2.1, hl.2.2.2.2.2.1, by simpa using hl.2.2.2.2.2.2⟩, h.below.setCell (by omega) u, h.smV, h.smS⟩
end
abbrev t3A (i : Ix) : Array Value := #[.pointer (some ⟨i.b1, 0, none⟩), .pointer (some ⟨i.b2, 0, none⟩), .pointer (some ⟨i.b3, 0, none⟩)]
theorem t3Size : (Try.prog.info? 55).map (·.size) = some 3 := by kernel_rfl
theorem t3_one (i : Ix) : (t3A i).all (·.oneCell') = true := by simp [Value.oneCell']

set_option maxHeartbeats 4000000 in
theorem tables_any (w : World) : Calls Try.prog 16 #[] w fun e w' => ∃ i : Ix, e = .returned (.agg (t3A i)) ∧ T3 w i [] [] [] w' := by
  have SZ := Lib.hid t3Size
  go_enter Try.func16, Try.ntmps16
  go_upto_region 1 with fail
  have K0 := Lib.hid (Blk.new w #[.pointer none, .pointer none, .pointer none] 55)
  have B0 := Lib.hid ((Below.refl w.heap.size w).alloc (Nat.le_refl _) (.cells #[.pointer none, .pointer none, .pointer none] 55))
  obtain ⟨w1, hw1⟩ : ∃ w1, w1 = w.alloc (.cells #[.pointer none, .pointer none, .pointer none] 55) := ⟨_, rfl⟩
  rw [← hw1] at K0 B0 ⊢
  clear hw1
  have HF := Lib.hid (show ∀ W : World, Calls Try.prog 35 #[.int .i64 64, .int .i64 1000] W fun e w' => ∃ b, e = .returned (.pointer (some ⟨b, 0, none⟩)) ∧ TF w' b W.heap.size w'.heap.size 64 1000 [] ∧ Below W.heap.size W w' from fun W => new_tf 64 1000 W)
  have HZ0 := Lib.hid (show w.heap.size < w1.heap.size from K0.out.lt)
  go_wp2_with (first
    | (go_at_call 9; refine (new_tm _).mono ?_; rintro e w2 ⟨bv, rfl, tv, hb2⟩; have TV := Lib.hid tv; have B2 := Lib.hid hb2; have K2 := Lib.hid (K0.out.below hb2 K0.out.lt); clear tv hb2)
    | (go_at_call 34; refine (new_ts _).mono ?_; rintro e w3 ⟨bs, rfl, ts, hb3⟩; have TSS := Lib.hid ts; have B3 := Lib.hid hb3; have K3 := Lib.hid (K2.out.below hb3 K2.out.lt); clear ts hb3)
    | (go_at_call 35; with_reducible refine (HF.out _).mono ?_; rintro e w4 ⟨bf, rfl, tf, hb4⟩; have TFF := Lib.hid tf; have B4 := Lib.hid hb4; have K4 := Lib.hid (K3.out.below hb4 K3.out.lt); clear tf hb4)
    | (refine wpList_store_row rfl 55 _ _ rfl w.heap.size #[.pointer (some ⟨bv, 0, none⟩), .pointer (some ⟨bs, 0, none⟩), .pointer (some ⟨bf, 0, none⟩)] rfl rfl 55 #[.pointer none, .pointer none, .pointer none] K4.out SZ.out rfl (by simp [Value.oneCell']) ?_))
  have s2 := B2.out.size
  have s3 := B3.out.size
  have s4 := B4.out.size
  have s0 := HZ0.out
  refine bodyPost_ret (v := .agg #[.pointer (some ⟨bv, 0, none⟩), .pointer (some ⟨bs, 0, none⟩), .pointer (some ⟨bf, 0, none⟩)]) (results_cell_row Try.results16 _ _ w.heap.size 55 _ (0, 0) _ rfl (K4.out.row _) Try.underlying55 rfl SZ.out) rfl ?_
  refine ⟨⟨bv, w1.heap.size, w2.heap.size, bs, w2.heap.size, w3.heap.size, bf, w3.heap.size, w4.heap.size⟩, rfl, ?_, ?_, ?_, ⟨Nat.le_of_lt s0, s2, Nat.le_refl _, s3, Nat.le_refl _, s4, by simp [World.setRow]⟩, ?_, ?_, ?_⟩
  · exact TV.out.keep (fun k h1 h2 => (setRow_other w4 _ k _ (by omega)).trans (((B3.out.trans (B4.out.mono s3)).block k h2)))
  · exact TSS.out.keep (fun k h1 h2 => (setRow_other w4 _ k _ (by omega)).trans (B4.out.block k h2))
  · exact TFF.out.keep (fun k h1 h2 => setRow_other w4 _ k _ (by omega))
  · exact below_setRow (B0.out.trans ((B2.out.trans ((B3.out.trans (B4.out.mono s3)).mono s2)).mono (Nat.le_of_lt s0))) (Nat.le_refl _) _
  · intro y hy; cases hy
  · intro y hy; cases hy
/-- A set is laid: few and small they stay. -/
theorem setS_small {l : List Se} (h : SmallS l) (x : Se) : SmallS (setS l x) := by
  unfold setS
  split
  · exact h
  · rename_i hg
    have hx : x.prt < 65536 := by
      unfold goodS at hg
      split at hg
      · simp at hg
      · split at hg
        · simp at hg
        · split at hg
          · simp at hg
          · omega
    split
    · intro y hy
      rcases List.mem_or_eq_of_mem_set hy with h1 | h1
      · exact h y h1
      · rw [h1]; exact hx
    · split
      · exact h
      · intro y hy
        rcases layK_mem hy with h1 | h1
        · rw [h1]; exact hx
        · exact h y h1
end Go.Proofs.Ytpjfpcebjneblaa
end
section
namespace Go.Proofs.Ytpjfpcebjneblaa
open Go.RowKit
attribute [local irreducible] wpQuiet
set_option linter.unusedSimpArgs false
set_option linter.unusedVariables false

/-- The ports that lead to a station; all, where nothing is known of it. -/
def towN (k : Nat) (ls : List Se) (lf : List En) : Nat := if (findS k ls).2 = true then (findS k ls).1 else if (findF k lf).2 = true then ofS [(findF k lf).1] else 4294967295
theorem kySizeP : (Try.prog.info? 61).map (·.size) = some 7 := by kernel_rfl
theorem k7 {W : World} {c vid a : Nat} (h : Blk W c (kyA vid a) 61) :
    W.cell? ⟨c, 0, none⟩ = some (.int .u16 (vid : Nat)) ∧ W.cell? ⟨c, 1, none⟩ = some (.int .u8 (byteF a 0 : Nat)) ∧ W.cell? ⟨c, 2, none⟩ = some (.int .u8 (byteF a 1 : Nat)) ∧ W.cell? ⟨c, 3, none⟩ = some (.int .u8 (byteF a 2 : Nat)) ∧ W.cell? ⟨c, 4, none⟩ = some (.int .u8 (byteF a 3 : Nat)) ∧ W.cell? ⟨c, 5, none⟩ = some (.int .u8 (byteF a 4 : Nat)) ∧ W.cell? ⟨c, 6, none⟩ = some (.int .u8 (byteF a 5 : Nat)) :=
  ⟨h.cell 0, h.cell 1, h.cell 2, h.cell 3, h.cell 4, h.cell 5, h.cell 6⟩

set_option maxRecDepth 100000 in
set_option maxHeartbeats 4000000 in
theorem towards_any {w0 w : World} {i : Ix} {lv : List Vl} {ls : List Se} {lf : List En} (vid a : Nat) (ha : a < 281474976710656) (h : T3 w0 i lv ls lf w) :
    Calls Try.prog 42 #[.agg (t3A i), kyV vid a] w fun e w' => e = .returned (.int .u32 (towN (keyN vid a) ls lf : Nat)) ∧ Below w.heap.size w w' := by
  obtain ⟨G, hG⟩ : ∃ G, G = w.heap.size := ⟨_, rfl⟩
  obtain ⟨w1, hw1⟩ : ∃ w1, w1 = (w.alloc (.cells (t3A i) 55)).alloc (.cells (kyA vid a) 61) := ⟨_, rfl⟩
  have hb1 : Below w.heap.size w w1 := by rw [hw1]; exact ((Below.refl w.heap.size w).alloc (Nat.le_refl _) _).alloc (by simp) _
  have KT := Lib.hid (show Blk w1 G (t3A i) 55 by rw [hw1, hG]; exact (Blk.new _ _ _).alloc _)
  have KK := Lib.hid (show Blk w1 (G + 1) (kyA vid a) 61 by
    have := Blk.new (w.alloc (.cells (t3A i) 55)) (kyA vid a) 61
    rw [hw1, hG]
    simpa using this)
  have H1 := Lib.hid (h.next hb1)
  have HA := Lib.hid ha
  have HB1 := Lib.hid hb1
  have HW := Lib.hid hw1
  have HG := Lib.hid hG
  obtain ⟨sv, hsv⟩ : ∃ sv, sv = (findS (keyN vid a) ls).1 := ⟨_, rfl⟩
  obtain ⟨sf, hsf⟩ : ∃ sf, sf = (findS (keyN vid a) ls).2 := ⟨_, rfl⟩
  obtain ⟨fv, hfv⟩ : ∃ fv, fv = (findF (keyN vid a) lf).1 := ⟨_, rfl⟩
  obtain ⟨ff, hff⟩ : ∃ ff, ff = (findF (keyN vid a) lf).2 := ⟨_, rfl⟩
  obtain ⟨R, hR⟩ : ∃ R, R = towN (keyN vid a) ls lf := ⟨_, rfl⟩
  have HR := Lib.hid (show R = if sf = true then sv else if ff = true then ofS [fv] else 4294967295 by rw [hR, hsv, hsf, hfv, hff]; rfl)
  rw [← hR]
  have GS := Lib.hid (show ∀ W, T3 w0 i lv ls lf W → Calls Try.prog 21 #[.pointer (some ⟨i.b2, 0, none⟩), kyV vid a] W fun e w' => e = .returned (.tuple #[.int .u32 (sv : Nat), .bool sf]) ∧ Below W.heap.size W w' from fun W hW => by rw [hsv, hsf]; exact get_s vid a HA.out hW.tabS)
  have GF := Lib.hid (show ∀ W, T3 w0 i lv ls lf W → Calls Try.prog 22 #[.pointer (some ⟨i.b3, 0, none⟩), kyV vid a] W fun e w' => e = .returned (.tuple #[.int .i64 fv, .bool ff]) ∧ Below W.heap.size W w' from fun W hW => by rw [hfv, hff]; exact find_f vid a HA.out hW.tabF)
  have OF := Lib.hid (show ∀ W : World, Calls Try.prog 28 #[.slice (some ⟨W.heap.size, 0, none⟩) 1 1] (W.alloc (.cells #[.int .i64 fv] 3)) fun e w' => e = .returned (.int .u32 (ofS [fv] : Nat)) ∧ (W.alloc (.cells #[.int .i64 fv] 3)) = w' from fun W => of_any _ 1 [fv] _ (ints_new W [fv]) (by simp))
  clear hsv hsf hfv hff hR hG hw1 hb1 ha h
  go_enter Try.func42, Try.ntmps42
  go_upto_region 1 with fail
  rw [← HW.out, ← HG.out]
  have d1 : w1.cell? ⟨G, 1, none⟩ = some (.pointer (some ⟨i.b2, 0, none⟩)) := KT.out.cell 1
  obtain ⟨k0, k1, k2, k3, k4, k5, k6⟩ := k7 KK.out
  go_upto_region 2 with (go_at_call 21; refine (GS.out w1 H1.out).mono ?_; rintro e w2 ⟨rfl, hb2⟩)
  have H2 := Lib.hid (H1.out.next hb2)
  have B2 := Lib.hid (HB1.out.trans (hb2.mono HB1.out.size))
  have KT2 := Lib.hid (KT.out.below hb2 KT.out.lt)
  have KK2 := Lib.hid (KK.out.below hb2 KK.out.lt)
  clear hb2 d1 k0 k1 k2 k3 k4 k5 k6
  cases sf with
  | true =>
    have RR := Lib.hid (show sv = R by rw [HR.out, if_pos rfl])
    go_wp2_with fail
    go_ret
    exact ⟨by rw [← RR.out]; rfl, B2.out⟩
  | false =>
    have d2 : w2.cell? ⟨G, 2, none⟩ = some (.pointer (some ⟨i.b3, 0, none⟩)) := KT2.out.cell 2
    obtain ⟨k0, k1, k2, k3, k4, k5, k6⟩ := k7 KK2.out
    go_upto_region 5 with (go_at_call 22; refine (GF.out w2 H2.out).mono ?_; rintro e w3 ⟨rfl, hb3⟩)
    have B3 := Lib.hid (B2.out.trans (hb3.mono B2.out.size))
    clear hb3 d2 k0 k1 k2 k3 k4 k5 k6
    cases ff with
    | true =>
      have RR := Lib.hid (show ofS [fv] = R by rw [HR.out, if_neg (by decide), if_pos rfl])
      go_wp2_with (go_at_call 28; refine (OF.out _).mono ?_; rintro e w4 ⟨rfl, rfl⟩)
      go_ret
      exact ⟨by rw [← RR.out]; rfl, B3.out.alloc B3.out.size _⟩
    | false =>
      have RR := Lib.hid (show 4294967295 = R by rw [HR.out, if_neg (by decide), if_neg (by decide)])
      go_wp2_with fail
      go_ret
      exact ⟨by rw [← RR.out]; rfl, B3.out⟩

/-- To which ports a frame goes. -/
def portsN (from' : Int) (vid a opn : Nat) (lv : List Vl) (ls : List Se) (lf : List En) : Nat :=
  if (findV vid lv).2 = false ∨ resB (byteF a) = true then 0 else (withoutS (findV vid lv).1.mem from' &&& opn) &&& towN (keyN vid a) ls lf
theorem macSizeP : (Try.prog.info? 44).map (·.size) = some 6 := by kernel_rfl
theorem k6c {W : World} {c a : Nat} (h : Blk W c (macA (byteF a)) 44) :
    W.cell? ⟨c, 0, none⟩ = some (.int .u8 (byteF a 0 : Nat)) ∧ W.cell? ⟨c, 1, none⟩ = some (.int .u8 (byteF a 1 : Nat)) ∧ W.cell? ⟨c, 2, none⟩ = some (.int .u8 (byteF a 2 : Nat)) ∧ W.cell? ⟨c, 3, none⟩ = some (.int .u8 (byteF a 3 : Nat)) ∧ W.cell? ⟨c, 4, none⟩ = some (.int .u8 (byteF a 4 : Nat)) ∧ W.cell? ⟨c, 5, none⟩ = some (.int .u8 (byteF a 5 : Nat)) :=
  ⟨h.cell 0, h.cell 1, h.cell 2, h.cell 3, h.cell 4, h.cell 5⟩
theorem towN_lt {k : Nat} {ls : List Se} (lf : List En) (h : SmallS ls) : towN k ls lf < 4294967296 := by
  unfold towN
  split
  · have := findS_small h k; omega
  · split
    · have := ofS_lt [(findF k lf).1]; omega
    · omega

set_option maxRecDepth 100000 in
set_option maxHeartbeats 8000000 in
theorem ports_any {w0 w : World} {i : Ix} {lv : List Vl} {ls : List Se} {lf : List En} (from' : Int) (vid a opn : Nat) (ha : a < 281474976710656) (ho : opn < 4294967296) (h : T3 w0 i lv ls lf w) :
    Calls Try.prog 20 #[.agg (t3A i), .int .i64 from', .int .u16 (vid : Nat), mac (byteF a), .int .u32 (opn : Nat)] w fun e w' => e = .returned (.int .u32 (portsN from' vid a opn lv ls lf : Nat)) ∧ Below w.heap.size w w' := by
  obtain ⟨G, hG⟩ : ∃ G, G = w.heap.size := ⟨_, rfl⟩
  obtain ⟨w1, hw1⟩ : ∃ w1, w1 = (w.alloc (.cells (t3A i) 55)).alloc (.cells (macA (byteF a)) 44) := ⟨_, rfl⟩
  have hb1 : Below w.heap.size w w1 := by rw [hw1]; exact ((Below.refl w.heap.size w).alloc (Nat.le_refl _) _).alloc (by simp) _
  have KT := Lib.hid (show Blk w1 G (t3A i) 55 by rw [hw1, hG]; exact (Blk.new _ _ _).alloc _)
  have KM := Lib.hid (show Blk w1 (G + 1) (macA (byteF a)) 44 by
    have := Blk.new (w.alloc (.cells (t3A i) 55)) (macA (byteF a)) 44
    rw [hw1, hG]
    simpa using this)
  have H1 := Lib.hid (h.next hb1)
  have HA := Lib.hid ha
  have HO := Lib.hid ho
  have HB1 := Lib.hid hb1
  have HW := Lib.hid hw1
  have HG := Lib.hid hG
  have SZT := Lib.hid t3Size
  have SZM := Lib.hid macSizeP
  have SM := Lib.hid (findV_small h.smV vid)
  obtain ⟨xx, hxx⟩ : ∃ xx, xx = (findV vid lv).1 := ⟨_, rfl⟩
  obtain ⟨found, hfo⟩ : ∃ found, found = (findV vid lv).2 := ⟨_, rfl⟩
  obtain ⟨res, hres⟩ : ∃ res, res = resB (byteF a) := ⟨_, rfl⟩
  obtain ⟨tow, htow⟩ : ∃ tow, tow = towN (keyN vid a) ls lf := ⟨_, rfl⟩
  have HTL := Lib.hid (show tow < 4294967296 by rw [htow]; exact towN_lt lf h.smS)
  obtain ⟨R, hR⟩ : ∃ R, R = portsN from' vid a opn lv ls lf := ⟨_, rfl⟩
  have HR := Lib.hid (show R = if found = false ∨ res = true then 0 else (withoutS xx.mem from' &&& opn) &&& tow by rw [hR, hxx, hfo, hres, htow]; rfl)
  rw [← hR]
  have GV := Lib.hid (show ∀ W, T3 w0 i lv ls lf W → Calls Try.prog 12 #[.pointer (some ⟨i.b1, 0, none⟩), .int .u16 (vid : Nat)] W fun e w' => e = .returned (.tuple #[vlV xx, .bool found]) ∧ Below W.heap.size W w' from fun W hW => by rw [hxx, hfo]; exact get_find vid hW.tabV)
  have RS := Lib.hid (show ∀ W : World, Calls Try.prog 23 #[mac (byteF a)] W fun e w' => e = .returned (.bool res) ∧ Below W.heap.size W w' from fun W => by rw [hres]; exact reserved_any (byteF a) W (byteF_six a))
  have TW := Lib.hid (show ∀ W, T3 w0 i lv ls lf W → Calls Try.prog 42 #[.agg (t3A i), kyV vid a] W fun e w' => e = .returned (.int .u32 (tow : Nat)) ∧ Below W.heap.size W w' from fun W hW => by rw [htow]; exact towards_any vid a HA.out hW)
  rw [← hxx] at SM
  clear hxx hfo hres htow hR hG hw1 hb1 ha ho h
  obtain ⟨xv, m, u⟩ := xx
  have WO := Lib.hid (show ∀ W : World, Calls Try.prog 41 #[.int .u32 (m : Nat), .int .i64 from'] W fun e w' => e = .returned (.int .u32 (withoutS m from' : Nat)) ∧ W = w' from fun W => without_any m from' W (Nat.lt_trans SM.out.1 (by decide)))
  obtain ⟨wm, hwm⟩ : ∃ wm, wm = withoutS m from' := ⟨_, rfl⟩
  have HWM := Lib.hid (show wm < 4294967296 by rw [hwm]; exact withoutS_lt m from' (Nat.lt_trans SM.out.1 (by decide)))
  simp only at HR
  rw [← hwm] at HR WO
  clear hwm
  go_enter Try.func20, Try.ntmps20
  go_upto_region 1 with fail
  rw [← HW.out, ← HG.out]
  have d0 : w1.cell? ⟨G, 0, none⟩ = some (.pointer (some ⟨i.b1, 0, none⟩)) := KT.out.cell 0
  go_upto_region 2 with (go_at_call 12; refine (GV.out w1 H1.out).mono ?_; rintro e w2 ⟨rfl, hb2⟩)
  obtain ⟨V, hV⟩ : ∃ V, V = w2.heap.size := ⟨_, rfl⟩
  obtain ⟨W2, hW2⟩ : ∃ W2, W2 = w2.alloc (.cells #[.int .u16 (xv : Nat), .int .u32 (m : Nat), .int .u32 (u : Nat)] 37) := ⟨_, rfl⟩
  have b12 : Below w1.heap.size w1 W2 := by rw [hW2]; exact hb2.alloc hb2.size _
  have KV := Lib.hid (show Blk W2 V #[.int .u16 (xv : Nat), .int .u32 (m : Nat), .int .u32 (u : Nat)] 37 by rw [hW2, hV]; exact Blk.new _ _ _)
  have H2 := Lib.hid (H1.out.next b12)
  have B2 := Lib.hid (HB1.out.trans (b12.mono HB1.out.size))
  have KT2 := Lib.hid (KT.out.below b12 KT.out.lt)
  have KM2 := Lib.hid (KM.out.below b12 KM.out.lt)
  rw [← hV, ← hW2]
  clear hb2 hV hW2 b12 d0
  cases found with
  | false =>
    have RR := Lib.hid (show 0 = R by rw [HR.out, if_pos (.inl rfl)])
    go_wp2_with fail
    go_ret
    exact ⟨by rw [← RR.out]; rfl, B2.out⟩
  | true =>
    obtain ⟨m0, m1, m2, m3, m4, m5⟩ := k6c KM2.out
    cases res with
    | true =>
      have RR := Lib.hid (show 0 = R by rw [HR.out, if_pos (.inr rfl)])
      go_wp2_with (go_at_call 23; refine (RS.out _).mono ?_; rintro e w3 ⟨rfl, hb3⟩; have B3 := Lib.hid (B2.out.trans (hb3.mono B2.out.size)); clear hb3)
      go_ret
      exact ⟨by rw [← RR.out]; rfl, B3.out⟩
    | false =>
      have RR := Lib.hid (show (wm &&& opn) &&& tow = R by rw [HR.out, if_neg (by decide)])
      have A1 := Lib.hid (u32_and_nat wm opn HWM.out HO.out)
      have A2 := Lib.hid (u32_and_nat (wm &&& opn) tow (Nat.lt_of_le_of_lt Nat.and_le_left HWM.out) HTL.out)
      go_upto_region 4 with (go_at_call 23; refine (RS.out _).mono ?_; rintro e w3 ⟨rfl, hb3⟩)
      have H3 := Lib.hid (H2.out.next hb3)
      have B3 := Lib.hid (B2.out.trans (hb3.mono B2.out.size))
      have KV3 := Lib.hid (show ∀ W, Below w3.heap.size w3 W → W.cell? ⟨V, 1, none⟩ = some (.int .u32 (m : Nat)) from fun W hW => by
        have k := KV.out.below hb3 KV.out.lt
        rw [(k.below hW k.lt).cell]
        rfl)
      have KT3 := Lib.hid (show ∀ W, Below w3.heap.size w3 W → Blk W G (t3A i) 55 from fun W hW => by
        have k := KT2.out.below hb3 KT2.out.lt
        exact k.below hW k.lt)
      have KM3 := Lib.hid (show ∀ W, Below w3.heap.size w3 W → Blk W (G + 1) (macA (byteF a)) 44 from fun W hW => by
        have k := KM2.out.below hb3 KM2.out.lt
        exact k.below hW k.lt)
      clear hb3 m0 m1 m2 m3 m4 m5
      refine wp_region_quiet (C := Below w3.heap.size w3) (by kernel_rfl) (by kernel_rfl) (Below.refl _ _).drew ?_
      (refine q_val (v := ?_) (by rfl) ?_ ?_; rotate_left; (· (intro w hC; go_simp; try with_reducible rfl)); (try simp only [Act.put, List.getElem_toArray, List.getElem_cons_succ, List.getElem_cons_zero, List.setIfInBounds_toArray, List.set_cons_zero, List.set_cons_succ]))
      (refine q_val (v := ?_) (by rfl) ?_ ?_; rotate_left; (· (intro w hC; have q := KV3.out w hC; go_simp; try with_reducible rfl)); (try simp only [Act.put, List.getElem_toArray, List.getElem_cons_succ, List.getElem_cons_zero, List.setIfInBounds_toArray, List.set_cons_zero, List.set_cons_succ]))
      (refine q_val (v := ?_) (by rfl) ?_ ?_; rotate_left; (· (intro w hC; go_simp; try with_reducible rfl)); (try simp only [Act.put, List.getElem_toArray, List.getElem_cons_succ, List.getElem_cons_zero, List.setIfInBounds_toArray, List.set_cons_zero, List.set_cons_succ]))
      (refine q_call (v := .int .u32 (wm : Nat)) 41 #[.int .u32 (m : Nat), .int .i64 from'] (by rfl) (fun w hC => by go_simp) (fun w hC => (WO.out w).mono fun e w' ⟨q1, q2⟩ => ⟨q1, q2 ▸ hC⟩) ?_; (try simp only [Act.put, List.getElem_toArray, List.getElem_cons_succ, List.getElem_cons_zero, List.setIfInBounds_toArray, List.set_cons_zero, List.set_cons_succ]))
      (refine q_val (v := ?_) (by rfl) ?_ ?_; rotate_left; (· (intro w hC; go_simp; try with_reducible rfl)); (try simp only [Act.put, List.getElem_toArray, List.getElem_cons_succ, List.getElem_cons_zero, List.setIfInBounds_toArray, List.set_cons_zero, List.set_cons_succ]))
      (refine q_val (v := .int .u32 ((wm &&& opn : Nat) : Nat)) (by rfl) (fun w hC => by rw [← A1.out]; go_simp) ?_; (try simp only [Act.put, List.getElem_toArray, List.getElem_cons_succ, List.getElem_cons_zero, List.setIfInBounds_toArray, List.set_cons_zero, List.set_cons_succ]))
      (refine q_val (v := Value.agg (t3A i)) (by rfl) (fun w hC => run_loadVar_of 55 _ rfl G rfl 55 (t3A i) _ (KT3.out w hC) Try.underlying55 rfl SZT.out) ?_; (try simp only [Act.put, List.getElem_toArray, List.getElem_cons_succ, List.getElem_cons_zero, List.setIfInBounds_toArray, List.set_cons_zero, List.set_cons_succ]))
      (refine q_val (v := ?_) (by rfl) ?_ ?_; rotate_left; (· (intro w hC; go_simp; try with_reducible rfl)); (try simp only [Act.put, List.getElem_toArray, List.getElem_cons_succ, List.getElem_cons_zero, List.setIfInBounds_toArray, List.set_cons_zero, List.set_cons_succ]))
      (refine q_val (v := Value.agg (macA (byteF a))) (by rfl) (fun w hC => run_loadVar_of 44 _ rfl (G + 1) rfl 44 (macA (byteF a)) _ (KM3.out w hC) Try.underlying44 rfl SZM.out) ?_; (try simp only [Act.put, List.getElem_toArray, List.getElem_cons_succ, List.getElem_cons_zero, List.setIfInBounds_toArray, List.set_cons_zero, List.set_cons_succ]))
      (refine q_val (v := ?_) (by rfl) ?_ ?_; rotate_left; (· (intro w hC; go_simp; try with_reducible rfl)); (try simp only [Act.put, List.getElem_toArray, List.getElem_cons_succ, List.getElem_cons_zero, List.setIfInBounds_toArray, List.set_cons_zero, List.set_cons_succ]))
      (refine q_call (v := .int .u32 (tow : Nat)) 42 #[.agg (t3A i), kyV vid a] (by rfl) (fun w hC => by go_simp) (fun w hC => calls_in (TW.out w (H3.out.next hC)) (fun w' hb => hC.trans (hb.mono hC.size))) ?_; (try simp only [Act.put, List.getElem_toArray, List.getElem_cons_succ, List.getElem_cons_zero, List.setIfInBounds_toArray, List.set_cons_zero, List.set_cons_succ]))
      (refine q_val (v := .int .u32 ((wm &&& opn &&& tow : Nat) : Nat)) (by rfl) (fun w hC => by rw [← A2.out]; go_simp) ?_; (try simp only [Act.put, List.getElem_toArray, List.getElem_cons_succ, List.getElem_cons_zero, List.setIfInBounds_toArray, List.set_cons_zero, List.set_cons_succ]))
      (refine q_val (v := ?_) (by rfl) ?_ ?_; rotate_left; (· (intro w hC; go_simp; try with_reducible rfl)); (try simp only [Act.put, List.getElem_toArray, List.getElem_cons_succ, List.getElem_cons_zero, List.setIfInBounds_toArray, List.set_cons_zero, List.set_cons_succ]))
      refine wpQuiet_nil ?_
      intro w5 hC5
      have B5 := Lib.hid (B3.out.trans (hC5.mono B3.out.size))
      clear hC5
      go_wp2_with fail
      go_ret
      exact ⟨by rw [← RR.out]; rfl, B5.out⟩
end Go.Proofs.Ytpjfpcebjneblaa
end
section
namespace Go.Proofs.Ytpjfpcebjneblaa
open Go.RowKit
attribute [local irreducible] wpQuiet
set_option linter.unusedSimpArgs false
set_option linter.unusedVariables false

/-- Three tables, and the law's own block of them. -/
structure Tp (w0 : World) (i : Ix) (P : Nat) (lv : List Vl) (ls : List Se) (lf : List En) (w : World) : Prop where
  t3 : T3 w0 i lv ls lf w
  blk : Blk w P (t3A i) 55
  low : i.z3 ≤ P
section
variable {w0 w w' : World} {i : Ix} {P : Nat} {lv lv' : List Vl} {ls ls' : List Se} {lf lf' : List En}
theorem Tp.next (h : Tp w0 i P lv ls lf w) (hb : Below w.heap.size w w') : Tp w0 i P lv ls lf w' := ⟨h.t3.next hb, h.blk.below hb h.blk.lt, h.low⟩
theorem Tp.setV (h : Tp w0 i P lv ls lf w) (x : Vl) :
    Calls Try.prog 10 #[.pointer (some ⟨i.b1, 0, none⟩), vlV x] w fun e w' => e = .returned (.int .i64 (setVE lv x)) ∧ Tp w0 i P (setV lv x) ls lf w' :=
  (set_tm x h.t3.tabV (by have := h.t3.low; omega) (by have := h.t3.low; omega)).mono fun e w' ⟨q1, q2, q3⟩ => ⟨q1, h.t3.setV q2 (setV_small h.t3.smV x) q3, q3.blk h.blk (.inr (by have := h.t3.low; have := h.low; omega)), h.low⟩
theorem Tp.setS (h : Tp w0 i P lv ls lf w) (x : Se) (hx : seOk x) (hl : ls.length ≤ 100) :
    Calls Try.prog 17 #[.pointer (some ⟨i.b2, 0, none⟩), seV x] w fun e w' => e = .returned (.int .i64 (setSE ls x)) ∧ Tp w0 i P lv (setS ls x) lf w' :=
  (set_ts x hx h.t3.tabS hl (by have := h.t3.low; omega) (by have := h.t3.low; omega)).mono fun e w' ⟨q1, q2, q3⟩ => ⟨q1, h.t3.setS q2 (setS_small h.t3.smS x) q3, q3.blk h.blk (.inr (by have := h.t3.low; have := h.low; omega)), h.low⟩
theorem Tp.learn (h : Tp w0 i P lv ls lf w) (vid a : Nat) (port : Int) (ha : a < 281474976710656) :
    Calls Try.prog 19 #[.pointer (some ⟨i.b3, 0, none⟩), kyV vid a, .int .i64 port] w fun e w' => ∃ v l', e = .returned v ∧ (∃ gv full, LearnR 64 1000 lf ⟨vid, a, port, 0⟩ l' gv full ∧ v = .tuple #[.agg gv, .bool full]) ∧ Tp w0 i P lv ls l' w' :=
  (learn_tf vid a port ha (by omega) h.t3.tabF (by have := h.t3.low; omega) (by have := h.t3.low; omega)).mono fun e w' ⟨l', gv, full, q1, q2, q3, q4⟩ => ⟨_, l', q2, ⟨gv, full, q1, rfl⟩, h.t3.learn q3 q4, q4.blk h.blk (.inr h.low), h.low⟩
end
theorem i_callx {P : Program} {ops : Array Oper} {Q : Exit → Act → World → Prop} {i : Nat} {o : Oper} {a : Act} {w : World} {K : Act → World → Prop} (ho : ops[i]? = some o) (f : FuncId) (args : Array Value) (R : Value → World → Prop) (hw : Region.wanted o (yielded ops a.tmps) = true) (hv : (execOp a.eval o).run P w = .ok (.enter f args) w)
    (hc : Calls P f args w fun e w' => ∃ v, e = .returned v ∧ R v w') (h : ∀ v w', R v w' → K (a.put o.dst v) w') : wpOp P ops Q i K a w := by
  unfold wpOp
  simp only [ho, hw, if_true, Oper.wp, hv, Oper.upon]
  exact .inl (hc.mono fun e w' ⟨v, he, hr⟩ => by subst he; exact h v w' hr)
theorem s12a : setV [] ⟨5, 7, 0⟩ = [⟨5, 7, 0⟩] := by decide
theorem s12b : portsN 1 5 2 15 [⟨5, 7, 0⟩] [] [] = 6 := by decide
theorem s12c : portsN 1 5 2 15 [⟨5, 7, 0⟩] [] [⟨5, 2, 3, 0⟩] = 4 := by decide
theorem s12d {l' : List En} {gv : Array Value} {full : Bool} (h : LearnR 64 1000 [] ⟨5, 2, 3, 0⟩ l' gv full) : l' = [⟨5, 2, 3, 0⟩] := by
  rcases h with ⟨h, -⟩ | ⟨-, -, rfl, -, -⟩ | ⟨-, h, -⟩
  · exact absurd h (by decide)
  · rfl
  · exact absurd h (by decide)

set_option maxRecDepth 100000 in
set_option maxHeartbeats 8000000 in
theorem speaks12_any (w : World) : Calls Try.prog 15 #[] w fun e w' => e = .returned (.bool true) ∧ Below w.heap.size w w' := by
  have SZT := Lib.hid t3Size
  have HFI := Lib.hid (show ∀ W : World, Calls Try.prog 18 #[.int .u64 2] W fun e w' => e = .returned (mac (byteF 2)) ∧ Below W.heap.size W w' from fun W => fromInt_any 2 W)
  have RN := Lib.hid (show ∀ W : World, Blk (W.alloc (.cells #[.pointer none, .pointer none, .pointer none] 55)) W.heap.size #[.pointer none, .pointer none, .pointer none] 55 from fun W => Blk.new W _ 55)
  go_enter Try.func15, Try.ntmps15
  go_upto_region 2 with (first
    | (go_at_call 16; refine (tables_any _).mono ?_; rintro e w1 ⟨i, rfl, h1⟩))
  obtain ⟨P, hP⟩ : ∃ P, P = w1.heap.size := ⟨_, rfl⟩
  obtain ⟨w2, hw2⟩ : ∃ w2, w2 = w1.alloc (.cells (t3A i) 55) := ⟨_, rfl⟩
  have T2 := Lib.hid (show Tp w i P [] [] [] w2 from ⟨by rw [hw2]; exact h1.next ((Below.refl _ _).alloc (Nat.le_refl _) _), by rw [hw2, hP]; exact Blk.new _ _ _, by rw [hP]; exact h1.low.2.2.2.2.2.2⟩)
  rw [← hw2, ← hP]
  clear hw2 hP h1
  have d0 : w2.cell? ⟨P, 0, none⟩ = some (.pointer (some ⟨i.b1, 0, none⟩)) := T2.out.blk.cell 0
  have HS := Lib.hid (show Calls Try.prog 10 #[.pointer (some ⟨i.b1, 0, none⟩), .agg #[.int .u16 5, .int .u32 7, .int .u32 0]] w2 fun e w' => (∃ v, e = .returned v) ∧ Tp w i P [⟨5, 7, 0⟩] [] [] w' from
    (T2.out.setV ⟨5, 7, 0⟩).mono fun e w' ⟨q1, q2⟩ => ⟨⟨_, q1⟩, by rw [← s12a]; exact q2⟩)
  go_upto_region 3 with (go_at_call 10; refine HS.out.mono ?_; rintro e w3 ⟨⟨v3, rfl⟩, hT3⟩)
  have T3' := Lib.hid hT3
  clear hT3 d0
  have HP1 := Lib.hid (show ∀ W, Tp w i P [⟨5, 7, 0⟩] [] [] W → Calls Try.prog 20 #[.agg (t3A i), .int .i64 1, .int .u16 5, mac (byteF 2), .int .u32 15] W fun e w' => e = .returned (.int .u32 6) ∧ Below W.heap.size W w' from fun W hW =>
    (ports_any 1 5 2 15 (by omega) (by omega) hW.t3).mono fun e w' ⟨q1, q2⟩ => ⟨by rw [q1, s12b]; rfl, q2⟩)
  have HP2 := Lib.hid (show ∀ W, Tp w i P [⟨5, 7, 0⟩] [] [⟨5, 2, 3, 0⟩] W → Calls Try.prog 20 #[.agg (t3A i), .int .i64 1, .int .u16 5, mac (byteF 2), .int .u32 15] W fun e w' => e = .returned (.int .u32 4) ∧ Below W.heap.size W w' from fun W hW =>
    (ports_any 1 5 2 15 (by omega) (by omega) hW.t3).mono fun e w' ⟨q1, q2⟩ => ⟨by rw [q1, s12c]; rfl, q2⟩)
  refine wp_region_quiet (C := Tp w i P [⟨5, 7, 0⟩] [] []) (by kernel_rfl) (by kernel_rfl) (T3'.out.next (Below.refl _ _).drew) ?_
  (refine q_val (v := Value.agg (t3A i)) (by rfl) (fun w hC => run_loadVar_of 55 _ rfl P rfl 55 (t3A i) _ hC.blk Try.underlying55 rfl SZT.out) ?_; (try simp only [Act.put, List.getElem_toArray, List.getElem_cons_succ, List.getElem_cons_zero, List.setIfInBounds_toArray, List.set_cons_zero, List.set_cons_succ]))
  (refine q_call (v := mac (byteF 2)) 18 #[.int .u64 2] (by rfl) (fun w hC => by go_simp) (fun w hC => calls_in (HFI.out w) (fun w' hb => hC.next hb)) ?_; (try simp only [Act.put, List.getElem_toArray, List.getElem_cons_succ, List.getElem_cons_zero, List.setIfInBounds_toArray, List.set_cons_zero, List.set_cons_succ]))
  (refine q_call (v := .int .u32 6) 20 #[.agg (t3A i), .int .i64 1, .int .u16 5, mac (byteF 2), .int .u32 15] (by rfl) (fun w hC => by go_simp) (fun w hC => calls_in (HP1.out w hC) (fun w' hb => hC.next hb)) ?_; (try simp only [Act.put, List.getElem_toArray, List.getElem_cons_succ, List.getElem_cons_zero, List.setIfInBounds_toArray, List.set_cons_zero, List.set_cons_succ]))
  (refine q_val (v := ?_) (by rfl) ?_ ?_; rotate_left; (· (intro w hC; go_simp; try with_reducible rfl)); (try simp only [Act.put, List.getElem_toArray, List.getElem_cons_succ, List.getElem_cons_zero, List.setIfInBounds_toArray, List.set_cons_zero, List.set_cons_succ]))
  refine wpQuiet_nil ?_
  intro w4 hC4
  have T4 := Lib.hid hC4
  clear hC4
  go_upto_region 4 with fail
  have HLN := Lib.hid (show ∀ W, Tp w i P [⟨5, 7, 0⟩] [] [] W → Calls Try.prog 19 #[.pointer (some ⟨i.b3, 0, none⟩), .agg #[.int .u16 5, .int .u8 (byteF 2 0 : Nat), .int .u8 (byteF 2 1 : Nat), .int .u8 (byteF 2 2 : Nat), .int .u8 (byteF 2 3 : Nat), .int .u8 (byteF 2 4 : Nat), .int .u8 (byteF 2 5 : Nat)], .int .i64 3] W fun e w' => ∃ v, e = .returned v ∧ Tp w i P [⟨5, 7, 0⟩] [] [⟨5, 2, 3, 0⟩] w' from fun W hW =>
    (hW.learn 5 2 3 (by omega)).mono fun e w' ⟨v, l', q1, ⟨gv, full, q2, _⟩, q3⟩ => ⟨v, q1, by rw [← s12d q2]; exact q3⟩)
  refine wp_region_inv (I := fun L ac W => ∃ v12 v13 v14 v15 v16 : Value, ac = { tmps := #[.bool false, .pointer (some ⟨P, 0, none⟩), .int .u32 6, undef, .agg (t3A i), .pointer (some ⟨P, 0, none⟩), .pointer (some ⟨i.b1, 0, none⟩), .agg #[.int .u16 5, .int .u32 7, .int .u32 0], v3, .agg (t3A i), mac (byteF 2), .int .u32 6, v12, v13, v14, v15, v16, undef, undef, undef, undef, undef, undef, undef, undef, undef], defers := [] } ∧ (L 0 = true → v12 = .pointer (some ⟨P, 2, none⟩)) ∧ (L 1 = true → v13 = .pointer (some ⟨i.b3, 0, none⟩)) ∧ (L 2 = true → v14 = mac (byteF 2)) ∧
    (L 3 = true → v15 = .agg #[.int .u16 5, .int .u8 (byteF 2 0 : Nat), .int .u8 (byteF 2 1 : Nat), .int .u8 (byteF 2 2 : Nat), .int .u8 (byteF 2 3 : Nat), .int .u8 (byteF 2 4 : Nat), .int .u8 (byteF 2 5 : Nat)]) ∧
    (L 1 = true → L 0 = true) ∧ (L 3 = true → L 2 = true) ∧ (L 4 = false → Tp w i P [⟨5, 7, 0⟩] [] [] W) ∧ (L 4 = true → (L 0 = true ∧ L 1 = true ∧ L 2 = true ∧ L 3 = true) ∧ Tp w i P [⟨5, 7, 0⟩] [] [⟨5, 2, 3, 0⟩] W)) (by kernel_rfl) (by kernel_rfl) ⟨_, _, _, _, _, rfl, (fun h => Bool.noConfusion h), (fun h => Bool.noConfusion h), (fun h => Bool.noConfusion h), (fun h => Bool.noConfusion h), (fun h => Bool.noConfusion h), (fun h => Bool.noConfusion h), (fun _ => T4.out.next (Below.refl _ _).drew), (fun h => Bool.noConfusion h)⟩ ?_ ?_
  · rintro k hk L ac W ⟨v12, v13, v14, v15, v16, rfl, e12, e13, e14, e15, k1, k3, hF, hT⟩ hL haft
    have hno : k < 4 → L 4 = false := fun hk4 => by
      cases c : L 4 with
      | false => rfl
      | true =>
        obtain ⟨⟨q0, q1, q2, q3⟩, -⟩ := hT c
        match k, hk4 with
        | 0, _ => rw [hL] at q0; cases q0
        | 1, _ => rw [hL] at q1; cases q1
        | 2, _ => rw [hL] at q2; cases q2
        | 3, _ => rw [hL] at q3; cases q3
    match k, hk with
    | 0, _ =>
      have h4 := hno (by omega)
      exact i_val rfl (.pointer (some ⟨P, 2, none⟩)) W (by rfl) (by go_simp) ⟨_, v13, v14, v15, v16, rfl, (fun _ => rfl), e13, e14, e15, (fun _ => rfl), k3, hF, (fun q => absurd (show L 4 = true from q) (by rw [h4]; decide))⟩
    | 1, _ =>
      have h4 := hno (by omega)
      have e := e12 (haft 0 (by decide))
      subst e
      have q := (hF h4).blk.cell 2
      simp only [List.getElem?_toArray, List.getElem?_cons_zero, List.getElem?_cons_succ] at q
      exact i_val rfl (.pointer (some ⟨i.b3, 0, none⟩)) W (by rfl) (by go_simp) ⟨_, _, v14, v15, v16, rfl, e12, (fun _ => rfl), e14, e15, (fun _ => haft 0 (by decide)), k3, hF, (fun q => absurd (show L 4 = true from q) (by rw [h4]; decide))⟩
    | 2, _ =>
      have h4 := hno (by omega)
      have hW := hF h4
      exact i_call rfl (mac (byteF 2)) 18 #[.int .u64 2] (fun w' => Below W.heap.size W w') (by rfl) (by go_simp) (HFI.out W) fun w' hb => ⟨v12, v13, _, v15, v16, rfl, e12, e13, (fun _ => rfl), e15, k1, (fun _ => rfl), (fun _ => hW.next hb), (fun q => absurd (show L 4 = true from q) (by rw [h4]; decide))⟩
    | 3, _ =>
      have h4 := hno (by omega)
      have e := e14 (haft 2 (by decide))
      subst e
      exact i_val rfl (.agg #[.int .u16 5, .int .u8 (byteF 2 0 : Nat), .int .u8 (byteF 2 1 : Nat), .int .u8 (byteF 2 2 : Nat), .int .u8 (byteF 2 3 : Nat), .int .u8 (byteF 2 4 : Nat), .int .u8 (byteF 2 5 : Nat)]) W (by rfl) (by go_simp) ⟨v12, v13, _, _, v16, rfl, e12, e13, e14, (fun _ => rfl), k1, (fun _ => haft 2 (by decide)), hF, (fun q => absurd (show L 4 = true from q) (by rw [h4]; decide))⟩
    | 4, _ =>
      have h1 := haft 1 (by decide)
      have h3 := haft 3 (by decide)
      have ea := e13 h1
      have eb := e15 h3
      subst ea
      subst eb
      refine i_callx rfl 19 #[.pointer (some ⟨i.b3, 0, none⟩), .agg #[.int .u16 5, .int .u8 (byteF 2 0 : Nat), .int .u8 (byteF 2 1 : Nat), .int .u8 (byteF 2 2 : Nat), .int .u8 (byteF 2 3 : Nat), .int .u8 (byteF 2 4 : Nat), .int .u8 (byteF 2 5 : Nat)], .int .i64 3] (fun v w' => Tp w i P [⟨5, 7, 0⟩] [] [⟨5, 2, 3, 0⟩] w') (by rfl) (by go_simp) (HLN.out W (hF hL)) ?_
      intro v w' hw
      refine ⟨v12, _, v14, _, _, rfl, e12, e13, e14, e15, k1, k3, (fun q => absurd (show upd L 4 4 = true from rfl) (by rw [q]; decide)), (fun _ => ⟨⟨k1 h1, h1, k3 h3, h3⟩, hw⟩)⟩
    | k + 5, h =>
      exfalso
      have h2 : k + 5 < 5 := h
      omega
  rintro L ac W ⟨v12, v13, v14, v15, v16, rfl, e12, e13, e14, e15, k1, k3, hF, hT⟩ hall
  have T5 := Lib.hid (hT (hall 4 (by decide))).2
  clear e12 e13 e14 e15 k1 k3 hF hT hall
  go_upto_region 5 with fail
  refine wp_region_quiet (C := Tp w i P [⟨5, 7, 0⟩] [] [⟨5, 2, 3, 0⟩]) (by kernel_rfl) (by kernel_rfl) (T5.out.next (Below.refl _ _).drew) ?_
  (refine q_val (v := Value.agg (t3A i)) (by rfl) (fun w hC => run_loadVar_of 55 _ rfl P rfl 55 (t3A i) _ hC.blk Try.underlying55 rfl SZT.out) ?_; (try simp only [Act.put, List.getElem_toArray, List.getElem_cons_succ, List.getElem_cons_zero, List.setIfInBounds_toArray, List.set_cons_zero, List.set_cons_succ]))
  (refine q_call (v := mac (byteF 2)) 18 #[.int .u64 2] (by rfl) (fun w hC => by go_simp) (fun w hC => calls_in (HFI.out w) (fun w' hb => hC.next hb)) ?_; (try simp only [Act.put, List.getElem_toArray, List.getElem_cons_succ, List.getElem_cons_zero, List.setIfInBounds_toArray, List.set_cons_zero, List.set_cons_succ]))
  (refine q_call (v := .int .u32 4) 20 #[.agg (t3A i), .int .i64 1, .int .u16 5, mac (byteF 2), .int .u32 15] (by rfl) (fun w hC => by go_simp) (fun w hC => calls_in (HP2.out w hC) (fun w' hb => hC.next hb)) ?_; (try simp only [Act.put, List.getElem_toArray, List.getElem_cons_succ, List.getElem_cons_zero, List.setIfInBounds_toArray, List.set_cons_zero, List.set_cons_succ]))
  (refine q_val (v := ?_) (by rfl) ?_ ?_; rotate_left; (· (intro w hC; go_simp; try with_reducible rfl)); (try simp only [Act.put, List.getElem_toArray, List.getElem_cons_succ, List.getElem_cons_zero, List.setIfInBounds_toArray, List.set_cons_zero, List.set_cons_succ]))
  refine wpQuiet_nil ?_
  intro w6 hC6
  have T6 := Lib.hid hC6
  clear hC6
  go_wp2_with fail
  go_ret
  exact ⟨rfl, T6.out.t3.below⟩
end Go.Proofs.Ytpjfpcebjneblaa
end
section
namespace Go.Proofs.Ytpjfpcebjneblaa
open Go.RowKit
set_option linter.unusedSimpArgs false
set_option linter.unusedVariables false
theorem one_good {vid m : Nat} (h1 : 1 ≤ vid) (h2 : vid ≤ 4094) (hm : m < 65536) : goodV ⟨vid, m, 0⟩ = 0 := by
  unfold goodV
  simp only
  rw [if_neg (by omega), if_neg (by omega)]
  have : subB m 0 = true := by unfold subB; simp
  rw [if_pos this]
theorem one_set {x : Vl} (h : goodV x = 0) : setV [] x = [x] := by
  unfold setV
  simp [h, atV, posV]
theorem has_and (x y : Nat) (p : Int) : hasB (x &&& y) p = (hasB x p && hasB y p) := by
  rcases port_cases p with h | ⟨k, hk, rfl⟩
  · rw [hasB_no h, hasB_no h]; rfl
  · rw [hasB_bit _ k hk, hasB_bit _ k hk, hasB_bit _ k hk, Nat.testBit_and]
theorem within_of {s t : Nat} (h : ∀ p, hasB s p = true → hasB t p = true) : withinB s t = true := by
  unfold withinB
  rw [List.all_eq_true]
  intro p hp
  unfold portsL upto at hp
  exact h p (List.mem_filter.mp hp).2
theorem and_full {x : Nat} (h : x < 4294967296) : x &&& 4294967295 = x := by
  rw [show (4294967295 : Nat) = 2 ^ 32 - 1 from rfl, Nat.and_two_pow_sub_one_eq_mod]
  exact Nat.mod_eq_of_lt h
theorem findV_self (v m : Nat) : findV v [⟨v, m, 0⟩] = (⟨v, m, 0⟩, true) := by simp [findV, atV]
theorem tow_nil (k : Nat) : towN k [] [] = 4294967295 := by simp [towN, findS, findF, atK]
theorem tow_one (v a : Nat) (port : Int) : towN (keyN v a) [] [⟨v, a, port, 0⟩] = ofS [port] := by simp [towN, findS, findF, atK, enK]
theorem tow_other {k : Nat} {x : En} (h : enK x ≠ k) : towN k [] [x] = 4294967295 := by simp [towN, findS, findF, atK, h]
theorem onceA (fr : Int) (m o a : Nat) (lf : List En) (hm : m < 65536) (hr : resB (byteF a) = false) (ht : towN (keyN 9 a) [] lf = 4294967295) :
    portsN fr 9 a o [⟨9, m, 0⟩] [] lf = withoutS m fr &&& o := by
  unfold portsN
  rw [findV_self, hr, ht]
  simp only [reduceCtorEq, or_self, if_false, Bool.false_eq_true, Bool.true_eq_false]
  exact and_full (Nat.lt_of_le_of_lt Nat.and_le_left (withoutS_lt m fr (by omega)))
theorem onceB (fr : Int) (m o : Nat) (port : Int) :
    portsN fr 9 10 o [⟨9, m, 0⟩] [] [⟨9, 10, port, 0⟩] = (withoutS m fr &&& o) &&& ofS [port] := by
  unfold portsN
  rw [findV_self, show resB (byteF 10) = false by decide, tow_one]
  simp
theorem once_learn {l' : List En} {gv : Array Value} {full : Bool} {port : Int} (h1 : 1 ≤ port) (h2 : port ≤ 16) (h : LearnR 64 1000 [] ⟨9, 10, port, 0⟩ l' gv full) : l' = [⟨9, 10, port, 0⟩] := by
  have ht : takesB 1000 ⟨9, 10, port, 0⟩ = true := by
    unfold takesB
    simp only
    rw [decide_eq_true h1, decide_eq_true h2, show byteF 10 0 % 2 = 0 by decide]
    rfl
  rcases h with ⟨h, -⟩ | ⟨-, -, rfl, -, -⟩ | ⟨-, h, -⟩
  · rw [ht] at h; cases h
  · rfl
  · exact absurd h (by simp)
theorem ofS_pow (k : Nat) (hk : k < 16) : ofS [(k : Int) + 1] = 2 ^ k := by
  have : ∀ j : Fin 16, ofS [((j.val : Nat) : Int) + 1] = 2 ^ j.val := by decide +kernel
  exact this ⟨k, hk⟩
theorem ones_pow (k : Nat) (hk : k < 16) : (portsL (2 ^ k)).length = 1 := by
  have : ∀ j : Fin 16, (portsL (2 ^ j.val)).length = 1 := by decide +kernel
  exact this ⟨k, hk⟩
theorem and_of {A : Nat} {port : Int} (h1 : 1 ≤ port) (h2 : port ≤ 16) : A &&& ofS [port] = if hasB A port = true then ofS [port] else 0 := by
  obtain ⟨k, hk, rfl⟩ : ∃ k : Nat, k < 16 ∧ port = (k : Int) + 1 := ⟨(port - 1).toNat, by omega, by omega⟩
  rw [ofS_pow k hk, hasB_bit _ k hk]
  refine Nat.eq_of_testBit_eq fun j => ?_
  rw [Nat.testBit_and, Nat.testBit_two_pow]
  by_cases e : k = j
  · subst e
    cases A.testBit k <;> simp
  · rw [decide_eq_false e, Bool.and_false]
    split
    · rw [Nat.testBit_two_pow, decide_eq_false e]
    · simp
theorem once_few {A : Nat} {port : Int} (h1 : 1 ≤ port) (h2 : port ≤ 16) : decide ((((portsL (A &&& ofS [port])).length : Nat) : Int) ≤ 1) = true := by
  rw [and_of h1 h2]
  obtain ⟨k, hk, rfl⟩ : ∃ k : Nat, k < 16 ∧ port = (k : Int) + 1 := ⟨(port - 1).toNat, by omega, by omega⟩
  split
  · rw [ofS_pow k hk, ones_pow k hk]; decide
  · decide +kernel
theorem once_same {A : Nat} {port : Int} (h1 : 1 ≤ port) (h2 : port ≤ 16) : ((((A &&& ofS [port] : Nat) : Int)) == ((ofS [port] : Nat) : Int)) = hasB A port := by
  rw [and_of h1 h2]
  obtain ⟨k, hk, rfl⟩ : ∃ k : Nat, k < 16 ∧ port = (k : Int) + 1 := ⟨(port - 1).toNat, by omega, by omega⟩
  have : 0 < 2 ^ k := Nat.two_pow_pos k
  rw [ofS_pow k hk]
  cases hasB A ((k : Int) + 1)
  · rw [if_neg (by simp), beq_eq_false_iff_ne]
    omega
  · rw [if_pos rfl]
    simp
theorem once_not (m o : Nat) (fr : Int) : hasB (withoutS m fr &&& o) fr = false := by rw [has_and, has_withoutS]; simp
theorem once_mem (m o : Nat) (fr : Int) : withinB (withoutS m fr &&& o) m = true := within_of fun p h => by
  rw [has_and, has_withoutS, Bool.and_eq_true, Bool.and_eq_true] at h
  exact h.1.1
theorem once_open (m o : Nat) (fr : Int) : withinB (withoutS m fr &&& o) o = true := within_of fun p h => by
  rw [has_and, Bool.and_eq_true] at h
  exact h.2
theorem once_less (A x : Nat) : withinB (A &&& x) A = true := within_of fun p h => by
  rw [has_and, Bool.and_eq_true] at h
  exact h.1
end Go.Proofs.Ytpjfpcebjneblaa
end
section
namespace Go.Proofs.Ytpjfpcebjneblaa
open Go.RowKit
set_option linter.unusedSimpArgs false
set_option linter.unusedVariables false
theorem isPort_in {p : Int} (h1 : 1 ≤ p) (h2 : p ≤ 16) : isPort p = true := by unfold isPort; simp [h1, h2]
theorem has_full {p : Int} (h1 : 1 ≤ p) (h2 : p ≤ 16) : hasB 4294967295 p = true := by
  obtain ⟨k, hk, rfl⟩ : ∃ k : Nat, k < 16 ∧ p = (k : Int) + 1 := ⟨(p - 1).toNat, by omega, by omega⟩
  have : ∀ j : Fin 16, hasB 4294967295 (((j.val : Nat) : Int) + 1) = true := by decide +kernel
  exact this ⟨k, hk⟩
theorem has_one {p q : Int} (h1 : 1 ≤ p) (h2 : p ≤ 16) : hasB (ofS [q]) p = (q == p) := by
  rw [has_ofS, isPort_in h1 h2, Bool.and_true, Bool.eq_iff_iff]
  simp
  constructor <;> exact fun h => h.symm
theorem tow_bit {k : Nat} {ls : List Se} {lf : List En} {p : Int} (h1 : 1 ≤ p) (h2 : p ≤ 16) :
    hasB (towN k ls lf) p = if (findS k ls).2 = true then hasB (findS k ls).1 p else if (findF k lf).2 = true then (findF k lf).1 == p else true := by
  unfold towN
  split
  · rfl
  · split
    · exact has_one h1 h2
    · exact has_full h1 h2
/-- Is a port among those that a frame goes to? -/
theorem ports_bit {fr : Int} {vid a opn : Nat} {lv : List Vl} {ls : List Se} {lf : List En} {p : Int} (h1 : 1 ≤ p) (h2 : p ≤ 16) :
    hasB (portsN fr vid a opn lv ls lf) p = ((((((findV vid lv).2 && !resB (byteF a)) && hasB (findV vid lv).1.mem p) && p != fr) && hasB opn p) && hasB (towN (keyN vid a) ls lf) p) := by
  unfold portsN
  cases (findV vid lv).2
  · simp only [true_or, if_true, Bool.false_and]
    obtain ⟨k, hk, rfl⟩ : ∃ k : Nat, k < 16 ∧ p = (k : Int) + 1 := ⟨(p - 1).toNat, by omega, by omega⟩
    rw [hasB_bit _ k hk, Nat.zero_testBit]
  · cases resB (byteF a)
    · simp only [Bool.true_eq_false, Bool.false_eq_true, or_self, if_false, Bool.not_false, Bool.and_true, Bool.true_and]
      rw [has_and, has_and, has_withoutS]
      congr 3
      rw [Bool.eq_iff_iff]
      simp
    · simp only [or_true, if_true, Bool.not_true, Bool.and_false, Bool.false_and]
      obtain ⟨k, hk, rfl⟩ : ∃ k : Nat, k < 16 ∧ p = (k : Int) + 1 := ⟨(p - 1).toNat, by omega, by omega⟩
      rw [hasB_bit _ k hk, Nat.zero_testBit]
theorem withoutS_le (s : Nat) (p : Int) : withoutS s p ≤ s := by
  unfold withoutS
  split
  · exact Nat.and_le_left
  · exact Nat.le_refl _
theorem ports_small {fr : Int} {vid a opn : Nat} {lv : List Vl} {ls : List Se} {lf : List En} (h : Small lv) : portsN fr vid a opn lv ls lf < 65536 := by
  unfold portsN
  split
  · omega
  · exact Nat.lt_of_le_of_lt Nat.and_le_left (Nat.lt_of_le_of_lt Nat.and_le_left (Nat.lt_of_le_of_lt (withoutS_le _ _) (findV_small h vid).1))
end Go.Proofs.Ytpjfpcebjneblaa
end
section
namespace Go.Proofs.Ytpjfpcebjneblaa
open Go.ChangeShapes Go.WideShapes Go.ChangeAt Go.RowKit

section
variable {H : Type} {enc : TypeId × Value → H} {P : Program} {w : World} {base : Nat} {spare : Nat → Bool} {held : Bool}

/-- The elements of an array of integers that is read. -/
theorem arr_ints {n : Nat} {t e : TypeId} {k : IntKind} {fuel : Nat} {cs : List Value} {x : DataW H × List MemPlace} (ht : P.underlying t = some (.array n e)) (he : P.underlying e = some (.int k)) (hce : P.cellsOf e = 1) (hc : P.cellsOf t = n)
    (h : DataW.trod enc P w base spare held fuel t cs = some x) : cs.length = n ∧ ∀ i, i < n → ∃ a, cs[i]? = some (.int k a) ∧ (Lit.int k a).wf = true := by
  obtain ⟨xs, m, _, _, hl, hx, hi⟩ := DataW.trod_array ht h
  refine ⟨hl.trans hc, fun i hin => ?_⟩
  have h1 := hi i hin
  rw [hce, Nat.mul_one] at h1
  have hlen : i < cs.length := by omega
  rw [List.drop_eq_getElem_cons hlen, show List.take 1 (cs[i] :: List.drop (i + 1) cs) = [cs[i]] from rfl, List.getElem?_eq_getElem (by omega)] at h1
  obtain ⟨a, e1, _, w1⟩ := DataW.trod_int he h1
  simp only [List.cons.injEq, and_true] at e1
  exact ⟨a, by rw [List.getElem?_eq_getElem hlen, e1], w1⟩

theorem open_arr6 {t e : TypeId} {k : IntKind} {v : Value} {d : DataW H} {p : List MemPlace} {b0 : Nat} {r : Reach}
    (ht : P.underlying t = some (.array 6 e)) (he : P.underlying e = some (.int k)) (hc : P.cellsOf t = 6) (hce : P.cellsOf e = 1)
    (hv : Value.okWide P w r b0 t v) (h : DataW.Trod enc P w base spare held t v d p) :
    ∃ (a0 a1 a2 a3 a4 a5 : Int), v = .agg #[.int k a0, .int k a1, .int k a2, .int k a3, .int k a4, .int k a5] ∧ (Lit.int k a0).wf = true ∧ (Lit.int k a1).wf = true ∧ (Lit.int k a2).wf = true ∧ (Lit.int k a3).wf = true ∧ (Lit.int k a4).wf = true ∧ (Lit.int k a5).wf = true := by
  unfold Value.okWide at hv
  rw [ht] at hv
  obtain ⟨cs, rfl, hsz, _⟩ := hv
  obtain ⟨l⟩ := cs
  obtain ⟨fuel, hf⟩ := h
  obtain ⟨_, hi⟩ := arr_ints ht he hce hc hf
  match l, hsz.trans hc with
  | [c0, c1, c2, c3, c4, c5], _ =>
    obtain ⟨a0, e0, w0⟩ := hi 0 (by omega)
    obtain ⟨a1, e1, w1⟩ := hi 1 (by omega)
    obtain ⟨a2, e2, w2⟩ := hi 2 (by omega)
    obtain ⟨a3, e3, w3⟩ := hi 3 (by omega)
    obtain ⟨a4, e4, w4⟩ := hi 4 (by omega)
    obtain ⟨a5, e5, w5⟩ := hi 5 (by omega)
    simp [Value.cells] at e0 e1 e2 e3 e4 e5
    subst e0 e1 e2 e3 e4 e5
    exact ⟨a0, a1, a2, a3, a4, a5, rfl, w0, w1, w2, w3, w4, w5⟩

theorem open_arr2 {t e : TypeId} {k : IntKind} {v : Value} {d : DataW H} {p : List MemPlace} {b0 : Nat} {r : Reach}
    (ht : P.underlying t = some (.array 2 e)) (he : P.underlying e = some (.int k)) (hc : P.cellsOf t = 2) (hce : P.cellsOf e = 1)
    (hv : Value.okWide P w r b0 t v) (h : DataW.Trod enc P w base spare held t v d p) :
    ∃ (a0 a1 : Int), v = .agg #[.int k a0, .int k a1] ∧ (Lit.int k a0).wf = true ∧ (Lit.int k a1).wf = true := by
  unfold Value.okWide at hv
  rw [ht] at hv
  obtain ⟨cs, rfl, hsz, _⟩ := hv
  obtain ⟨l⟩ := cs
  obtain ⟨fuel, hf⟩ := h
  obtain ⟨_, hi⟩ := arr_ints ht he hce hc hf
  match l, hsz.trans hc with
  | [c0, c1], _ =>
    obtain ⟨a0, e0, w0⟩ := hi 0 (by omega)
    obtain ⟨a1, e1, w1⟩ := hi 1 (by omega)
    simp [Value.cells] at e0 e1
    subst e0 e1
    exact ⟨a0, a1, rfl, w0, w1⟩

end
end Go.Proofs.Ytpjfpcebjneblaa
end
section
namespace Go.Proofs.Ytpjfpcebjneblaa
open Go.ChangeShapes Go.WideShapes Go.ChangeAt Go.RowKit
set_option linter.unusedVariables false
set_option linter.unusedSimpArgs false

theorem cellsS4 : Try.prog.cellsOf 4 = 1 := by kernel_rfl
theorem cellsS5 : Try.prog.cellsOf 5 = 1 := by kernel_rfl
theorem cellsS22 : Try.prog.cellsOf 22 = 1 := by kernel_rfl
theorem cellsS76 : Try.prog.cellsOf 76 = 9 := by kernel_rfl

section
variable {H : Type} {enc : TypeId × Value → H} {w : World} {base : Nat} {spare : Nat → Bool} {held : Bool}

set_option maxRecDepth 100000 in
theorem cells_s76 {cs : Array Value} {fuel : Nat} {x : DataW H × List MemPlace} (hsz : cs.toList.length = 9) (hf : DataW.trod enc Try.prog w base spare held fuel 76 cs.toList = some x) :
    ∃ (x0 : Bool) (x1 : Int) (x2 : Bool) (x3 : Int) (x4 : Int) (x5 : Int) (x6 : Int) (x7 : Int) (x8 : Int), cs = #[.bool x0, .int .u8 x1, .bool x2, .int .u16 x3, .int .u16 x4, .int .u16 x5, .int .u16 x6, .int .u16 x7, .int .u16 x8] ∧ (Lit.int .u8 x1).wf = true ∧ (Lit.int .u16 x3).wf = true ∧ (Lit.int .u16 x4).wf = true ∧ (Lit.int .u16 x5).wf = true ∧ (Lit.int .u16 x6).wf = true ∧ (Lit.int .u16 x7).wf = true ∧ (Lit.int .u16 x8).wf = true := by
  obtain ⟨l⟩ := cs
  obtain ⟨xs, n, _, _, _, hlen, hg⟩ := DataW.trod_struct Try.underlying76 hf
  match l, hsz with
  | [c0, c1, c2, c3, c4, c5, c6, c7, c8], _ =>
    match xs, hlen with
    | [z0, z1, z2, z3, z4, z5, z6, z7, z8], _ =>
      have g0 : DataW.trod enc Try.prog w base spare held n 4 (([c0, c1, c2, c3, c4, c5, c6, c7, c8].drop 0).take (Try.prog.cellsOf 4)) = some z0 := hg 0 _ rfl
      have g1 : DataW.trod enc Try.prog w base spare held n 5 (([c0, c1, c2, c3, c4, c5, c6, c7, c8].drop 1).take (Try.prog.cellsOf 5)) = some z1 := hg 1 _ rfl
      have g2 : DataW.trod enc Try.prog w base spare held n 4 (([c0, c1, c2, c3, c4, c5, c6, c7, c8].drop 2).take (Try.prog.cellsOf 4)) = some z2 := hg 2 _ rfl
      have g3 : DataW.trod enc Try.prog w base spare held n 22 (([c0, c1, c2, c3, c4, c5, c6, c7, c8].drop 3).take (Try.prog.cellsOf 22)) = some z3 := hg 3 _ rfl
      have g4 : DataW.trod enc Try.prog w base spare held n 22 (([c0, c1, c2, c3, c4, c5, c6, c7, c8].drop 4).take (Try.prog.cellsOf 22)) = some z4 := hg 4 _ rfl
      have g5 : DataW.trod enc Try.prog w base spare held n 22 (([c0, c1, c2, c3, c4, c5, c6, c7, c8].drop 5).take (Try.prog.cellsOf 22)) = some z5 := hg 5 _ rfl
      have g6 : DataW.trod enc Try.prog w base spare held n 22 (([c0, c1, c2, c3, c4, c5, c6, c7, c8].drop 6).take (Try.prog.cellsOf 22)) = some z6 := hg 6 _ rfl
      have g7 : DataW.trod enc Try.prog w base spare held n 22 (([c0, c1, c2, c3, c4, c5, c6, c7, c8].drop 7).take (Try.prog.cellsOf 22)) = some z7 := hg 7 _ rfl
      have g8 : DataW.trod enc Try.prog w base spare held n 22 (([c0, c1, c2, c3, c4, c5, c6, c7, c8].drop 8).take (Try.prog.cellsOf 22)) = some z8 := hg 8 _ rfl
      rw [cellsS4] at g0
      rw [cellsS5] at g1
      rw [cellsS4] at g2
      rw [cellsS22] at g3
      rw [cellsS22] at g4
      rw [cellsS22] at g5
      rw [cellsS22] at g6
      rw [cellsS22] at g7
      rw [cellsS22] at g8
      obtain ⟨x0, e0, _⟩ := DataW.trod_bool Try.underlying4 g0
      obtain ⟨x1, e1, _, w1⟩ := DataW.trod_int Try.underlying5 g1
      obtain ⟨x2, e2, _⟩ := DataW.trod_bool Try.underlying4 g2
      obtain ⟨x3, e3, _, w3⟩ := DataW.trod_int Try.underlying22 g3
      obtain ⟨x4, e4, _, w4⟩ := DataW.trod_int Try.underlying22 g4
      obtain ⟨x5, e5, _, w5⟩ := DataW.trod_int Try.underlying22 g5
      obtain ⟨x6, e6, _, w6⟩ := DataW.trod_int Try.underlying22 g6
      obtain ⟨x7, e7, _, w7⟩ := DataW.trod_int Try.underlying22 g7
      obtain ⟨x8, e8, _, w8⟩ := DataW.trod_int Try.underlying22 g8
      simp [Value.cells] at e0 e1 e2 e3 e4 e5 e6 e7 e8
      subst e0 e1 e2 e3 e4 e5 e6 e7 e8
      exact ⟨x0, x1, x2, x3, x4, x5, x6, x7, x8, rfl, w1, w3, w4, w5, w6, w7, w8⟩

set_option maxRecDepth 100000 in
theorem open_s76 {v : Value} {d : DataW H} {p : List MemPlace} {b0 : Nat} {r : Reach} (hv : Value.okWide Try.prog w r b0 76 v) (h : DataW.Trod enc Try.prog w base spare held 76 v d p) :
    ∃ (x0 : Bool) (x1 : Int) (x2 : Bool) (x3 : Int) (x4 : Int) (x5 : Int) (x6 : Int) (x7 : Int) (x8 : Int), v = .agg #[.bool x0, .int .u8 x1, .bool x2, .int .u16 x3, .int .u16 x4, .int .u16 x5, .int .u16 x6, .int .u16 x7, .int .u16 x8] ∧ (Lit.int .u8 x1).wf = true ∧ (Lit.int .u16 x3).wf = true ∧ (Lit.int .u16 x4).wf = true ∧ (Lit.int .u16 x5).wf = true ∧ (Lit.int .u16 x6).wf = true ∧ (Lit.int .u16 x7).wf = true ∧ (Lit.int .u16 x8).wf = true := by
  obtain ⟨cs, rfl, hsz⟩ := okWide_struct Try.underlying76 hv
  obtain ⟨fuel, hf⟩ := h
  obtain ⟨x0, x1, x2, x3, x4, x5, x6, x7, x8, rfl, w1, w3, w4, w5, w6, w7, w8⟩ := cells_s76 (by rw [Array.length_toList]; exact hsz.trans cellsS76) hf
  exact ⟨x0, x1, x2, x3, x4, x5, x6, x7, x8, rfl, w1, w3, w4, w5, w6, w7, w8⟩

end
end Go.Proofs.Ytpjfpcebjneblaa
end
section
namespace Go.Proofs.Ytpjfpcebjneblaa
open Go.RowKit
set_option linter.unusedSimpArgs false
set_option linter.unusedVariables false

theorem s11a : ofS [1] = 1 := by decide
theorem s11b : setV [] ⟨7, 1, 0⟩ = [⟨7, 1, 0⟩] := by decide
theorem s11c : setVE [] ⟨7, 1, 0⟩ = 0 := by decide
theorem s11d : findV 7 [⟨7, 1, 0⟩] = (⟨7, 1, 0⟩, true) := by rfl
theorem s11e : ingV 7 (ingC 0 true false true (hasB 1 1)) = 7 := by decide
theorem s11f : ingC 0 true false true (hasB 1 1) = 0 := by decide
theorem s11g : ingV 7 (ingC 0 true false true (hasB 1 2)) = 0 := by decide
theorem s11h : ingC 0 true false true (hasB 1 2) = 3 := by decide

set_option maxRecDepth 100000 in
set_option maxHeartbeats 4000000 in
theorem speaks11_any (w : World) : Calls Try.prog 8 #[] w fun e w' => e = .returned (.bool true) ∧ Below w.heap.size w w' := by
  have i1 := Lib.hid (show ∀ W : World, Calls Try.prog 28 #[.slice (some ⟨W.heap.size, 0, none⟩) 1 1] (W.alloc (.cells #[.int .i64 1] 3)) fun e w' => e = .returned (.int .u32 1) ∧ (W.alloc (.cells #[.int .i64 1] 3)) = w' from fun W => (of_any _ 1 [1] _ (ints_new W [1]) (by simp)).mono fun e w' ⟨h, h2⟩ => ⟨by rw [h, s11a]; rfl, h2⟩)
  go_enter Try.func8, Try.ntmps8
  go_upto_region 2 with (go_at_call 9; refine (new_tm _).mono ?_; rintro e w1 ⟨b, rfl, ht, hb1⟩)
  have O1 := Lib.hid (OneV.start (Below.refl w.heap.size w) ht hb1)
  generalize w.heap.size = A at O1
  generalize w1.heap.size = B at O1
  clear ht hb1
  have O2 := Lib.hid (O1.out.next ((Below.refl _ _).alloc (Nat.le_refl _) (.cells #[.int .i64 1] 3)))
  have HS := Lib.hid (show Calls Try.prog 10 #[.pointer (some ⟨b, 0, none⟩), .agg #[.int .u16 7, .int .u32 1, .int .u32 0]] (w1.alloc (.cells #[.int .i64 1] 3)) fun e w' => e = .returned (.int .i64 0) ∧ OneV w b A B [⟨7, 1, 0⟩] w' from
    (set_tm ⟨7, 1, 0⟩ O2.out.tab O2.out.low.2.1 O2.out.low.2.2).mono fun e w' ⟨h1, h2, h3⟩ => ⟨by rw [h1, s11c], O2.out.after (by rw [← s11b]; exact h2) h3⟩)
  go_upto_region 3 with (first | (go_at_call 28; refine (i1.out _).mono ?_; rintro e w2 ⟨rfl, rfl⟩) | (go_at_call 10; refine HS.out.mono ?_; rintro e w3 ⟨rfl, O3⟩))
  have O3h := Lib.hid O3
  clear O3
  go_upto_region 4 with fail
  have O4 := Lib.hid (O3h.out.next ((Below.refl _ _).alloc (Nat.le_refl _) (.cells #[.int .u16 7, .int .i64 0, .bool true] 30)))
  have K4 := Lib.hid (Blk.new w3 #[.int .u16 7, .int .i64 0, .bool true] 30)
  obtain ⟨p, hp⟩ : ∃ p, p = w3.heap.size := ⟨_, rfl⟩
  obtain ⟨w4, hw4⟩ : ∃ w4, w4 = w3.alloc (.cells #[.int .u16 7, .int .i64 0, .bool true] 30) := ⟨_, rfl⟩
  rw [← hw4, ← hp] at K4
  rw [← hw4] at O4
  rw [← hw4, ← hp]
  clear hp hw4
  have HI : ∀ (W : World), OneV w b A B [⟨7, 1, 0⟩] W → ∀ (no : Int) (v : Int) (c : Int), ((ingV 7 (ingC 0 true false true (hasB 1 no)) : Nat) : Int) = v → ingC 0 true false true (hasB 1 no) = c → Calls Try.prog 14 #[.agg #[.int .u16 7, .int .i64 0, .bool true], .int .i64 no, .agg nil18, .pointer (some ⟨b, 0, none⟩)] W fun e w' => e = .returned (.tuple #[.int .u16 v, .int .i64 c]) ∧ Below W.heap.size W w' := fun W hO no v c hv hc => by
    subst hv
    subst hc
    exact ingress_any 7 0 true no nil18 false 0 rfl rfl rfl (.pointer (some ⟨b, 0, none⟩)) ⟨7, 1, 0⟩ (by decide) true W (fun W' hb => (get_find 7 (hO.next hb).tab).mono fun e w' ⟨h1, h2⟩ => ⟨by rw [h1, s11d], h2⟩)
  have HIh := Lib.hid HI
  clear HI
  have k4 := K4.out
  have d0 : w4.cell? ⟨p, 0, none⟩ = some (.int .u16 7) := k4.cell 0
  have d1 : w4.cell? ⟨p, 1, none⟩ = some (.int .i64 0) := k4.cell 1
  have d2 : w4.cell? ⟨p, 2, none⟩ = some (.bool true) := k4.cell 2
  clear k4
  go_upto_region 5 with (go_at_call 14; refine (HIh.out w4 O4.out 1 7 0 (by decide) (by decide)).mono ?_; rintro e w5 ⟨rfl, hb5⟩)
  have O5 := Lib.hid (O4.out.next hb5)
  have K5 := Lib.hid (K4.out.below hb5 K4.out.lt)
  have k4 := K5.out
  clear d0 d1 d2 hb5
  have d0 : w5.cell? ⟨p, 0, none⟩ = some (.int .u16 7) := k4.cell 0
  have d1 : w5.cell? ⟨p, 1, none⟩ = some (.int .i64 0) := k4.cell 1
  have d2 : w5.cell? ⟨p, 2, none⟩ = some (.bool true) := k4.cell 2
  clear k4
  go_upto_region 6 with (go_at_call 14; refine (HIh.out w5 O5.out 2 0 3 (by decide) (by decide)).mono ?_; rintro e w6 ⟨rfl, hb6⟩)
  have O6 := Lib.hid (O5.out.next hb6)
  have K6 := Lib.hid (K5.out.below hb6 K5.out.lt)
  have k4 := K6.out
  clear d0 d1 d2 hb6
  have d0 : w6.cell? ⟨p, 0, none⟩ = some (.int .u16 7) := k4.cell 0
  have d1 : w6.cell? ⟨p, 1, none⟩ = some (.int .i64 0) := k4.cell 1
  have d2 : w6.cell? ⟨p, 2, none⟩ = some (.bool true) := k4.cell 2
  clear k4
  have HGd := Lib.hid (show Calls Try.prog 11 #[.agg #[.int .u16 7, .int .i64 0, .bool true]] w6 fun e w' => e = .returned (.bool true) ∧ Below w6.heap.size w6 w' from good_port 7 0 true w6)
  go_wp2_with (go_at_call 11; refine HGd.out.mono ?_; rintro e w7 ⟨rfl, hb7⟩; have O7 := Lib.hid (O6.out.next hb7); clear hb7)
  go_ret
  exact ⟨rfl, O7.out.below⟩
end Go.Proofs.Ytpjfpcebjneblaa
end
section
namespace Go.Proofs.Ytpjfpcebjneblaa
open Go.ChangeShapes Go.WideShapes Go.RowKit Go.Deep

/-- The structs of a slice that came in, by their cells. -/
def RowsAt {α : Type} (w : World) (A : Option Addr) (size : Nat) (enc : α → List Value) (l : List α) : Prop :=
  l = [] ∨ ∃ b off, A = some ⟨b, off, none⟩ ∧ b < w.heap.size ∧ ∀ (i : Nat) (x : α), l[i]? = some x → ∀ (j : Nat) (u : Value), (enc x)[j]? = some u → w.cell? ⟨b, off + (i * size + j), none⟩ = some u

theorem cell_spot {w : World} {x : Addr} {u : Value} (h : w.cell? x = some u) : x.spot = none ∧ x.block < w.heap.size := by
  unfold World.cell? at h
  split at h
  · rename_i hb
    refine ⟨?_, (Array.getElem?_eq_some_iff.1 hb).1⟩
    split at h
    · simp at h
    · rename_i hs; simpa using hs
  · simp at h

theorem add_none (b o n : Nat) : (⟨b, o, none⟩ : Addr).add n = ⟨b, o + n, none⟩ := by
  unfold Addr.add
  split <;> simp_all

theorem RowsAt.same {α : Type} {w w' : World} {A : Option Addr} {size : Nat} {enc : α → List Value} {l : List α} (h : RowsAt w A size enc l) (hb : Below w.heap.size w w') : RowsAt w' A size enc l := by
  rcases h with rfl | ⟨b, off, rfl, hlt, h⟩
  · exact .inl rfl
  · refine .inr ⟨b, off, rfl, Nat.lt_of_lt_of_le hlt hb.size, fun i x hx j u hu => ?_⟩
    have e := hb.block b hlt
    have := h i x hx j u hu
    unfold World.cell? at this ⊢
    rw [e]
    exact this

theorem open_rows {P : Program} {H : Type} {en : TypeId × Value → H} {w : World} {base : Nat} {spare : Nat → Bool} {held : Bool} {t e : TypeId} {size : Nat} {α : Type} {a : Option Addr} {len cap : Nat} {d : DataW H} {p : List MemPlace}
    (enc : α → List Value) (ok : α → Prop) (ht : P.underlying t = some (.slice e)) (hc : P.cellsOf e = size) (hs : 0 < size) (henc : ∀ x, (enc x).length = size)
    (each : ∀ (fuel : Nat) (cs : List Value) (y : DataW H × List MemPlace), cs.length = size → DataW.trod en P w base spare held fuel e cs = some y → ∃ x : α, cs = enc x ∧ ok x)
    (h : DataW.Trod en P w base spare held t (.slice a len cap) d p) :
    ∃ l : List α, l.length = len ∧ RowsAt w a size enc l ∧ (∀ x ∈ l, ok x) ∧ (len ≤ cap ∧ cap ≤ maxLen) ∧ (a = none → len = 0 ∧ cap = 0) := by
  obtain ⟨fuel, hf⟩ := h
  rcases open_slice ht hf with ⟨hcs, -⟩ | ⟨x, len', cap', m, n, D, Pl, hcs, -, hl, hm, hmm, -, hi⟩
  · simp [Value.cells] at hcs
    obtain ⟨rfl, rfl, rfl⟩ := hcs
    exact ⟨[], rfl, .inl rfl, by simp, ⟨Nat.le_refl _, Nat.zero_le _⟩, fun _ => ⟨rfl, rfl⟩⟩
  · simp [Value.cells] at hcs
    obtain ⟨rfl, rfl, rfl⟩ := hcs
    have hlm : len ≤ m := by rw [hmm]; split <;> omega
    rw [hc] at hi
    have key : ∀ i : Fin len, ∃ v : α, ok v ∧ ∀ (j : Nat) (u : Value), (enc v)[j]? = some u → w.cell? ((x.add (i * size)).add j) = some u := by
      intro ⟨i, hil⟩
      obtain ⟨cs', hcell, htr⟩ := hi i (by omega)
      obtain ⟨_, hcl, hat⟩ := World.cells?_some hcell
      obtain ⟨v, rfl, hok⟩ := each _ _ _ hcl htr
      refine ⟨v, hok, fun j u hu => ?_⟩
      have hj : j < size := by rw [← henc v]; exact (List.getElem?_eq_some_iff.1 hu).1
      have := hat j (by omega)
      rw [this]
      simpa [List.getElem?_eq_some_iff] using hu
    let f : Fin len → α := fun i => Classical.choose (key i)
    have fs : ∀ i, ok (f i) ∧ ∀ (j : Nat) (u : Value), (enc (f i))[j]? = some u → w.cell? ((x.add (i * size)).add j) = some u := fun i => Classical.choose_spec (key i)
    refine ⟨List.ofFn f, by simp, ?_, ?_, ⟨hl, hm⟩, by simp⟩
    · rcases Nat.eq_zero_or_pos len with h0 | h0
      · subst h0; exact .inl (by simp)
      · have hx : x.spot = none ∧ x.block < w.heap.size := by
          have h1 : 0 < (enc (f ⟨0, h0⟩)).length := by rw [henc]; exact hs
          have := (fs ⟨0, h0⟩).2 0 _ (List.getElem?_eq_getElem h1)
          have q := cell_spot this
          simpa [Addr.add] using q
        obtain ⟨b, o, sp⟩ := x
        obtain ⟨h1, h2⟩ := hx
        simp only at h1 h2
        subst h1
        refine .inr ⟨b, o, rfl, h2, fun i v hv j u hu => ?_⟩
        obtain ⟨hil, rfl⟩ := List.getElem?_eq_some_iff.1 hv
        rw [List.length_ofFn] at hil
        rw [List.getElem_ofFn] at hu
        have := (fs ⟨i, hil⟩).2 j u hu
        rw [add_none, add_none, Nat.add_assoc] at this
        exact this
    · intro v hv
      obtain ⟨i, rfl⟩ := List.mem_ofFn.1 hv
      exact (fs i).1
end Go.Proofs.Ytpjfpcebjneblaa
end
section
namespace Go.Proofs.Ytpjfpcebjneblaa
open Go.RowKit
attribute [local irreducible] wpQuiet
set_option linter.unusedSimpArgs false
set_option linter.unusedVariables false

theorem wrap_u16 (x : Int) (h : 0 ≤ x) (h2 : x ≤ 65535) : IntKind.u16.wrap x = x := by
  simp [IntKind.wrap, IntKind.bits, IntKind.signed]
  try omega
theorem vid_wrap (x : Nat) : IntKind.u16.wrap (1 + (x : Int).tmod 4094) = ((1 + x % 4094 : Nat) : Int) := by
  rw [Int.tmod_eq_emod_of_nonneg (by omega), wrap_u16 _ (by omega) (by omega)]
  omega
theorem nil18_one : nil18.all (·.oneCell') = true := by simp [Value.oneCell']
/-- A frame of a tag alone. -/
abbrev tagA (tg : Bool) (vi : Nat) : Array Value := frA (fun _ => 0) (fun _ => 0) tg 0 false vi 0 ⟨#[]⟩
theorem built_tag (tg : Bool) : Try.prog.built 46 [(2, .bool tg)] = some (tagA tg 0) := by cases tg <;> kernel_rfl
theorem zero46 (W : World) : (zeroValue 46).run Try.prog W = .ok (.agg nil18) W := by kernel_rfl
theorem good_one {vid m : Nat} (h1 : 1 ≤ vid) (h2 : vid ≤ 4094) (hm : m < 65536) : goodV ⟨vid, m, 0⟩ = 0 := by
  unfold goodV
  simp only
  rw [if_neg (by omega), if_neg (by omega)]
  have : subB m 0 = true := by unfold subB; simp
  rw [if_pos this]
theorem set_one {x : Vl} (h : goodV x = 0) : setV [] x = [x] ∧ setVE [] x = 0 := by
  unfold setV setVE
  simp [h, atV, posV]
theorem vidN_lt (x : Nat) : 1 + x % 4094 < 65536 := by omega
set_option maxRecDepth 100000 in
set_option maxHeartbeats 8000000 in
theorem open_walk (x0 x1 : Nat) (no : Int) (tagged : Bool) (hx0 : x0 < 65536) (hx1 : x1 < 65536) (w : World) : Calls Try.prog 4 #[.agg #[.int .u16 (x0 : Nat), .int .u16 (x1 : Nat)], .int .i64 no, .bool tagged] w fun e w' => e = .returned (.bool true) ∧ Below w.heap.size w w' := by
  obtain ⟨vid, hvid⟩ : ∃ vid, vid = 1 + x0 % 4094 := ⟨_, rfl⟩
  obtain ⟨vid2, hvid2⟩ : ∃ vid2, vid2 = 1 + vid % 4094 := ⟨_, rfl⟩
  have VID := Lib.hid hvid
  have VID2 := Lib.hid hvid2
  have EV := Lib.hid (show 1 + (x0 : Int) % 4094 = (vid : Int) by rw [hvid]; omega)
  have EV2 := Lib.hid (show 1 + (vid : Int) % 4094 = (vid2 : Int) by rw [hvid2]; omega)
  have EX := Lib.hid hx1
  obtain ⟨g, hg⟩ : ∃ g, g = w.heap.size := ⟨_, rfl⟩
  obtain ⟨w1, hw1⟩ : ∃ w1, w1 = w.alloc (.cells #[.int .u16 (x0 : Nat), .int .u16 (x1 : Nat)] 33) := ⟨_, rfl⟩
  have hb1 : Below w.heap.size w w1 := by rw [hw1]; exact (Below.refl w.heap.size w).alloc (Nat.le_refl _) _
  have hk1 : Blk w1 g #[.int .u16 (x0 : Nat), .int .u16 (x1 : Nat)] 33 := by rw [hw1, hg]; exact Blk.new _ _ _
  have HW := Lib.hid hw1
  have HG := Lib.hid hg
  have HB1 := Lib.hid hb1
  have K1 := Lib.hid hk1
  clear hvid hvid2 hg hw1 hb1 hk1 hx0 hx1
  go_enter Try.func4, Try.ntmps4
  go_upto_region 1 with fail
  rw [← HW.out, ← HG.out]
  go_upto_region 3 with (go_at_call 8; refine (speaks11_any w1).mono ?_; rintro e w2 ⟨rfl, hb2⟩)
  have B2 := Lib.hid (HB1.out.trans (hb2.mono HB1.out.size))
  have K2 := Lib.hid (K1.out.below hb2 K1.out.lt)
  clear hb2
  have HC0 := Lib.hid (show ∀ w', Below w2.heap.size w2 w' → w'.cell? ⟨g, 0, none⟩ = some (.int .u16 (x0 : Nat)) from fun w' hb => by rw [(K2.out.below hb K2.out.lt).cell]; rfl)
  have HC1 := Lib.hid (show ∀ w', Below w2.heap.size w2 w' → w'.cell? ⟨g, 1, none⟩ = some (.int .u16 (x1 : Nat)) from fun w' hb => by rw [(K2.out.below hb K2.out.lt).cell]; rfl)
  refine wp_region_quiet (C := Below w2.heap.size w2) (by kernel_rfl) (by kernel_rfl) (Below.refl _ _).drew ?_
  (refine q_val (v := ?_) (by rfl) ?_ ?_; rotate_left; (· (intro w hC; go_simp; try with_reducible rfl)); (try simp only [Act.put, List.getElem_toArray, List.getElem_cons_succ, List.getElem_cons_zero, List.setIfInBounds_toArray, List.set_cons_zero, List.set_cons_succ]))
  (refine q_val (v := ?_) (by rfl) ?_ ?_; rotate_left; (· (intro w hC; have q := HC0.out w hC; go_simp; try with_reducible rfl)); (try simp only [Act.put, List.getElem_toArray, List.getElem_cons_succ, List.getElem_cons_zero, List.setIfInBounds_toArray, List.set_cons_zero, List.set_cons_succ]))
  (refine q_val (v := ?_) (by rfl) ?_ ?_; rotate_left; (· (intro w hC; go_simp; try with_reducible rfl)); (try simp only [Act.put, List.getElem_toArray, List.getElem_cons_succ, List.getElem_cons_zero, List.setIfInBounds_toArray, List.set_cons_zero, List.set_cons_succ]))
  (refine q_val (v := ?_) (by rfl) ?_ ?_; rotate_left; (· (intro w hC; go_simp; try with_reducible rfl)); (try simp only [Act.put, List.getElem_toArray, List.getElem_cons_succ, List.getElem_cons_zero, List.setIfInBounds_toArray, List.set_cons_zero, List.set_cons_succ]))
  (refine q_val (v := ?_) (by rfl) ?_ ?_; rotate_left; (· (intro w hC; go_simp; try with_reducible rfl)); (try simp only [Act.put, List.getElem_toArray, List.getElem_cons_succ, List.getElem_cons_zero, List.setIfInBounds_toArray, List.set_cons_zero, List.set_cons_succ]))
  (refine q_val (v := ?_) (by rfl) ?_ ?_; rotate_left; (· (intro w hC; have q := HC1.out w hC; go_simp; try with_reducible rfl)); (try simp only [Act.put, List.getElem_toArray, List.getElem_cons_succ, List.getElem_cons_zero, List.setIfInBounds_toArray, List.set_cons_zero, List.set_cons_succ]))
  (refine q_val (v := ?_) (by rfl) ?_ ?_; rotate_left; (· (intro w hC; go_simp; try with_reducible rfl)); (try simp only [Act.put, List.getElem_toArray, List.getElem_cons_succ, List.getElem_cons_zero, List.setIfInBounds_toArray, List.set_cons_zero, List.set_cons_succ]))
  (refine q_val (v := ?_) (by rfl) ?_ ?_; rotate_left; (· (intro w hC; go_simp; try with_reducible rfl)); (try simp only [Act.put, List.getElem_toArray, List.getElem_cons_succ, List.getElem_cons_zero, List.setIfInBounds_toArray, List.set_cons_zero, List.set_cons_succ]))
  refine wpQuiet_nil ?_
  intro w5 hC5
  have K5 := Lib.hid hC5
  clear hC5
  rw [show IntKind.u16.wrap (1 + (x0 : Int).tmod 4094) = (vid : Int) by rw [vid_wrap, ← VID.out]]
  go_upto_region 5 with (go_at_call 9; refine (new_tm _).mono ?_; rintro e w6 ⟨b, rfl, ht, hb6⟩)
  have B5 := Lib.hid (B2.out.trans (K5.out.mono B2.out.size))
  have O6 := Lib.hid (OneV.start B5.out ht hb6)
  generalize w5.heap.size = A at O6
  generalize w6.heap.size = B at O6
  have GV := Lib.hid (good_one (m := x1) (show 1 ≤ vid by rw [VID.out]; omega) (by rw [VID.out]; omega) EX.out)
  have HS := Lib.hid (show Calls Try.prog 10 #[.pointer (some ⟨b, 0, none⟩), .agg #[.int .u16 (vid : Nat), .int .u32 (x1 : Nat), .int .u32 0]] w6 fun e w' => e = .returned (.int .i64 0) ∧ OneV w b A B [⟨vid, x1, 0⟩] w' from
    (set_tm ⟨vid, x1, 0⟩ O6.out.tab O6.out.low.2.1 O6.out.low.2.2).mono fun e w' ⟨h1, h2, h3⟩ => ⟨by rw [h1, (set_one GV.out).2], O6.out.after (by rw [← (set_one GV.out).1]; exact h2) h3⟩)
  clear ht hb6
  have ec : (x1 : Int) % 4294967296 = (x1 : Int) := by have := EX.out; omega
  go_upto_region 7 with (go_at_call 10; with_reducible refine HS.out.mono ?_; rintro e w7 ⟨rfl, hO7⟩)
  clear ec
  have O7 := Lib.hid hO7
  clear hO7
  have HI : ∀ (W : World), OneV w b A B [⟨vid, x1, 0⟩] W → ∀ (pv : Nat) (fi : Bool) (arr : Array Value) (tg : Bool) (vi : Nat), arr[12]? = some (.bool tg) → arr[15]? = some (.int .u16 (vi : Nat)) → arr.size = 18 → (if ownB tg vi then vi else pv) = vid →
      ∀ (v c : Int), ((ingV vid (ingC 0 fi (ownB tg vi) true (hasB x1 no)) : Nat) : Int) = v → ingC 0 fi (ownB tg vi) true (hasB x1 no) = c →
      Calls Try.prog 14 #[.agg #[.int .u16 (pv : Nat), .int .i64 0, .bool fi], .int .i64 no, .agg arr, .pointer (some ⟨b, 0, none⟩)] W fun e w' => e = .returned (.tuple #[.int .u16 v, .int .i64 c]) ∧ OneV w b A B [⟨vid, x1, 0⟩] w' ∧ Below W.heap.size W w' := fun W hO pv fi arr tg vi a12 a15 hsz hv v c hvv hcc => by
    subst hvv
    subst hcc
    have := ingress_any pv 0 fi no arr tg vi a12 a15 hsz (.pointer (some ⟨b, 0, none⟩)) ⟨vid, x1, 0⟩ (Nat.lt_trans EX.out (by decide)) true W (fun W' hb => by
      rw [hv]
      exact (get_find vid (hO.next hb).tab).mono fun e w' ⟨h1, h2⟩ => ⟨by rw [h1, findV_one ⟨vid, x1, 0⟩], h2⟩)
    rw [hv] at this
    exact this.mono fun e w' ⟨h1, h2⟩ => ⟨h1, hO.next h2, h2⟩
  have HIh := Lib.hid HI
  have SZ := Lib.hid size52
  clear HI
  have HASC := Lib.hid (show ∀ W : World, Calls Try.prog 13 #[.int .u32 (x1 : Nat), .int .i64 no] W fun e w' => e = .returned (.bool (hasB x1 no)) ∧ W = w' from fun W => has_any x1 no W (Nat.lt_trans EX.out (by decide)))
  obtain ⟨arr, harr⟩ : ∃ arr, arr = tagA tagged 0 := ⟨_, rfl⟩
  obtain ⟨f, hf⟩ : ∃ f, f = w7.heap.size := ⟨_, rfl⟩
  have R7 := Lib.hid (Blk.new w7 nil18 46)
  have SZ7 := Lib.hid (show (Try.prog.info? 46).map (·.size) = some arr.size by rw [harr]; exact size52)
  have ONE7 := Lib.hid (show arr.all (·.oneCell') = true by rw [harr]; exact frA_one _ _ _ _ _ _ _ _)
  have ARR := Lib.hid harr
  have HF := Lib.hid hf
  rw [← hf] at R7
  clear harr hf
  refine wp_region_lit ?_
  refine wpList_val (.bool tagged) (by rfl) (by go_simp) ?_
  (try simp only [Act.put, List.getElem_toArray, List.getElem_cons_succ, List.getElem_cons_zero, List.setIfInBounds_toArray, List.set_cons_zero, List.set_cons_succ])
  refine wpList_val (.agg arr) (by rfl) (run_build_of 46 [(2, .tmp 32)] rfl [(2, .bool tagged)] arr rfl (by rw [ARR.out]; exact built_tag tagged)) ?_
  (try simp only [Act.put, List.getElem_toArray, List.getElem_cons_succ, List.getElem_cons_zero, List.setIfInBounds_toArray, List.set_cons_zero, List.set_cons_succ])
  refine wpList_alloc 46 rfl (by rfl) nil18 zero46 ?_
  rw [← HF.out]
  (try simp only [Act.put, List.getElem_toArray, List.getElem_cons_succ, List.getElem_cons_zero, List.setIfInBounds_toArray, List.set_cons_zero, List.set_cons_succ])
  refine wpList_store_row rfl 46 _ _ rfl f arr rfl rfl 46 nil18 R7.out SZ7.out (by rw [ARR.out]; rfl) ONE7.out ?_
  (try simp only [Act.put, List.getElem_toArray, List.getElem_cons_succ, List.getElem_cons_zero, List.setIfInBounds_toArray, List.set_cons_zero, List.set_cons_succ])
  refine wpList_nil ?_
  obtain ⟨w8, hw8⟩ : ∃ w8, w8 = (w7.alloc (.cells nil18 46)).setRow f arr := ⟨_, rfl⟩
  have K8 := Lib.hid (show Blk w8 f arr 46 by rw [hw8]; exact R7.out.row arr)
  have HB8 := Lib.hid (show Below w7.heap.size w7 w8 by rw [hw8]; exact below_setRow ((Below.refl _ _).alloc (Nat.le_refl _) _) (by rw [HF.out]; exact Nat.le_refl _) arr)
  rw [← hw8]
  clear hw8
  have O8 := Lib.hid (O7.out.next HB8.out)
  have A12 := Lib.hid (show arr[12]? = some (.bool tagged) by rw [ARR.out]; rfl)
  have A15 := Lib.hid (show arr[15]? = some (.int .u16 ((0 : Nat) : Int)) by rw [ARR.out]; rfl)
  have ASZ := Lib.hid (show arr.size = 18 by rw [ARR.out]; rfl)
  clear R7 ONE7
  go_upto_region 9 with fail
  obtain ⟨w9, hw9⟩ : ∃ w9, w9 = w8.alloc (.cells #[.int .u16 (vid : Nat), .int .i64 0, .bool false] 30) := ⟨_, rfl⟩
  obtain ⟨p, hp⟩ : ∃ p, p = w8.heap.size := ⟨_, rfl⟩
  have hb9 : Below w8.heap.size w8 w9 := by rw [hw9]; exact (Below.refl _ _).alloc (Nat.le_refl _) _
  have K9 := Lib.hid (show Blk w9 p #[.int .u16 (vid : Nat), .int .i64 0, .bool false] 30 by rw [hw9, hp]; exact Blk.new _ _ _)
  have F9 := Lib.hid (K8.out.below hb9 K8.out.lt)
  have O9 := Lib.hid (O8.out.next hb9)
  have PB := Lib.hid (show B ≤ p by rw [hp]; have := O8.out.low; omega)
  have FB := Lib.hid (show B ≤ f by rw [HF.out]; have := O7.out.low; omega)
  have FP := Lib.hid (show f ≠ p by rw [hp]; have := K8.out.lt; omega)
  rw [← hw9, ← hp]
  clear hw9 hp hb9 O8 K8 HB8
  obtain ⟨has, hhas⟩ : ∃ has, hasB x1 no = has := ⟨_, rfl⟩
  rw [hhas] at HIh HASC
  clear hhas
  cases tagged with
  | false =>
    go_upto_region 12 with fail
    have k9 := K9.out
    have d0 : w9.cell? ⟨p, 0, none⟩ = some (.int .u16 (vid : Nat)) := k9.cell 0
    have d1 : w9.cell? ⟨p, 1, none⟩ = some (.int .i64 0) := k9.cell 1
    have d2 : w9.cell? ⟨p, 2, none⟩ = some (.bool false) := k9.cell 2
    clear k9
    have HI1 := Lib.hid (HIh.out w9 O9.out vid false arr false 0 A12.out A15.out ASZ.out rfl (vid : Int) 0 (by simp [ingV, ingC, accB, ownB]) (by simp [ingC, accB, ownB]))
    go_upto_region 13 with (first
      | (refine wpList_val (.agg arr) (by rfl) (run_loadVar_of 46 _ rfl f rfl 46 arr _ F9.out Try.underlying46 rfl SZ7.out) ?_)
      | (go_at_call 14; with_reducible refine HI1.out.mono ?_; rintro e w10 ⟨rfl, hO10, hb10⟩))
    have O10 := Lib.hid hO10
    have K10 := Lib.hid (K9.out.below hb10 K9.out.lt)
    have F10 := Lib.hid (F9.out.below hb10 F9.out.lt)
    clear hO10 hb10 d0 d1 d2
    have d2 : w10.cell? ⟨p, 2, none⟩ = some (.bool false) := K10.out.cell 2
    have fr2 : w10.frozen? ⟨p, 2, none⟩ = false := K10.out.free 2
    go_upto_region 14 with fail
    obtain ⟨w11, hw11⟩ : ∃ w11, w11 = w10.setCell ⟨p, 2, none⟩ (.bool true) := ⟨_, rfl⟩
    have K11 := Lib.hid (show Blk w11 p #[.int .u16 (vid : Nat), .int .i64 0, .bool true] 30 by rw [hw11]; exact K10.out.set 2 (.bool true))
    have F11 := Lib.hid (show Blk w11 f arr 46 by rw [hw11]; exact F10.out.other (a := ⟨p, 2, none⟩) (fun e => FP.out e.symm) _)
    have O11 := Lib.hid (show OneV w b A B [⟨vid, x1, 0⟩] w11 by rw [hw11]; exact O10.out.setCell (a := ⟨p, 2, none⟩) (by have := PB.out; simpa using this) _)
    rw [← hw11]
    clear hw11 d2 fr2
    have k9 := K11.out
    have d0 : w11.cell? ⟨p, 0, none⟩ = some (.int .u16 (vid : Nat)) := k9.cell 0
    have d1 : w11.cell? ⟨p, 1, none⟩ = some (.int .i64 0) := k9.cell 1
    have d2 : w11.cell? ⟨p, 2, none⟩ = some (.bool true) := k9.cell 2
    clear k9
    cases has with
    | false =>
      have HI2 := Lib.hid (HIh.out w11 O11.out vid true arr false 0 A12.out A15.out ASZ.out rfl 0 3 (by simp [ingV, ingC, accB, ownB]) (by simp [ingC, accB, ownB]))
      go_upto_region 15 with (first
        | (refine wpList_val (.agg arr) (by rfl) (run_loadVar_of 46 _ rfl f rfl 46 arr _ F11.out Try.underlying46 rfl SZ7.out) ?_)
        | (go_at_call 14; with_reducible refine HI2.out.mono ?_; rintro e w12 ⟨rfl, hO12, hb12⟩))
      have B12 := Lib.hid hO12.below
      have ec : (x1 : Int) % 4294967296 = (x1 : Int) := by have := EX.out; omega
      clear d0 d1 d2 hO12 hb12
      go_wp2_with (go_at_call 13; with_reducible refine (HASC.out w12).mono ?_; rintro e w13 ⟨rfl, rfl⟩)
      go_ret
      exact ⟨rfl, B12.out⟩
    | true =>
      have HI2 := Lib.hid (HIh.out w11 O11.out vid true arr false 0 A12.out A15.out ASZ.out rfl (vid : Int) 0 (by simp [ingV, ingC, accB, ownB]) (by simp [ingC, accB, ownB]))
      go_upto_region 15 with (first
        | (refine wpList_val (.agg arr) (by rfl) (run_loadVar_of 46 _ rfl f rfl 46 arr _ F11.out Try.underlying46 rfl SZ7.out) ?_)
        | (go_at_call 14; with_reducible refine HI2.out.mono ?_; rintro e w12 ⟨rfl, hO12, hb12⟩))
      have B12 := Lib.hid hO12.below
      have ec : (x1 : Int) % 4294967296 = (x1 : Int) := by have := EX.out; omega
      clear d0 d1 d2 hO12 hb12
      go_wp2_with (go_at_call 13; with_reducible refine (HASC.out w12).mono ?_; rintro e w13 ⟨rfl, rfl⟩)
      go_ret
      exact ⟨rfl, B12.out⟩
  | true =>
    have OWN := Lib.hid (show ownB true vid = true by unfold ownB; rw [decide_eq_true (show vid ≠ 0 by rw [VID.out]; omega)]; rfl)
    obtain ⟨arr2, harr2⟩ : ∃ arr2, arr2 = arr.setIfInBounds 15 (.int .u16 (vid : Nat)) := ⟨_, rfl⟩
    have fr15 : w9.frozen? ⟨f, 15, none⟩ = false := F9.out.free 15
    have d15 : w9.cell? ⟨f, 15, none⟩ = some (.int .u16 0) := by rw [F9.out.cell]; exact A15.out
    have fr0 : w9.frozen? ⟨p, 0, none⟩ = false := K9.out.free 0
    have d0 : w9.cell? ⟨p, 0, none⟩ = some (.int .u16 (vid : Nat)) := K9.out.cell 0
    go_upto_region 12 with fail
    rw [EV2.out]
    obtain ⟨w10a, hw10⟩ : ∃ w10a, w10a = (w9.setCell ⟨f, 15, none⟩ (.int .u16 (vid : Nat))).setCell ⟨p, 0, none⟩ (.int .u16 (vid2 : Nat)) := ⟨_, rfl⟩
    have K10a := Lib.hid (show Blk w10a p #[.int .u16 (vid2 : Nat), .int .i64 0, .bool false] 30 by rw [hw10]; exact (K9.out.other (a := ⟨f, 15, none⟩) FP.out _).set 0 (.int .u16 (vid2 : Nat)))
    have F10a := Lib.hid (show Blk w10a f arr2 46 by rw [hw10, harr2]; exact (F9.out.set 15 (.int .u16 (vid : Nat))).other (a := ⟨p, 0, none⟩) (fun e => FP.out e.symm) _)
    have O10a := Lib.hid (show OneV w b A B [⟨vid, x1, 0⟩] w10a by rw [hw10]; exact (O9.out.setCell (a := ⟨f, 15, none⟩) (by have := FB.out; simpa using this) _).setCell (a := ⟨p, 0, none⟩) (by have := PB.out; simpa using this) _)
    have A12b := Lib.hid (show arr2[12]? = some (.bool true) by rw [harr2, Array.getElem?_setIfInBounds_ne (by omega)]; exact A12.out)
    have A15b := Lib.hid (show arr2[15]? = some (.int .u16 (vid : Nat)) by rw [harr2]; exact Array.getElem?_setIfInBounds_self_of_lt (by rw [ASZ.out]; omega))
    have ASZb := Lib.hid (show arr2.size = 18 by rw [harr2]; simpa using ASZ.out)
    have SZb := Lib.hid (show (Try.prog.info? 46).map (·.size) = some arr2.size by rw [ASZb.out]; exact size52)
    rw [← hw10]
    clear hw10 harr2 d0 d15 fr0 fr15
    have k9 := K10a.out
    have d0 : w10a.cell? ⟨p, 0, none⟩ = some (.int .u16 (vid2 : Nat)) := k9.cell 0
    have d1 : w10a.cell? ⟨p, 1, none⟩ = some (.int .i64 0) := k9.cell 1
    have d2 : w10a.cell? ⟨p, 2, none⟩ = some (.bool false) := k9.cell 2
    clear k9
    have HI1 := Lib.hid (HIh.out w10a O10a.out vid2 false arr2 true vid A12b.out A15b.out ASZb.out (by rw [OWN.out]; rfl) (vid : Int) 0 (by rw [OWN.out]; rfl) (by rw [OWN.out]; rfl))
    go_upto_region 13 with (first
      | (refine wpList_val (.agg arr2) (by rfl) (run_loadVar_of 46 _ rfl f rfl 46 arr2 _ F10a.out Try.underlying46 rfl SZb.out) ?_)
      | (go_at_call 14; with_reducible refine HI1.out.mono ?_; rintro e w10 ⟨rfl, hO10, hb10⟩))
    have O10 := Lib.hid hO10
    have K10 := Lib.hid (K10a.out.below hb10 K10a.out.lt)
    have F10 := Lib.hid (F10a.out.below hb10 F10a.out.lt)
    clear hO10 hb10 d0 d1 d2
    have d2 : w10.cell? ⟨p, 2, none⟩ = some (.bool false) := K10.out.cell 2
    have fr2 : w10.frozen? ⟨p, 2, none⟩ = false := K10.out.free 2
    go_upto_region 14 with fail
    obtain ⟨w11, hw11⟩ : ∃ w11, w11 = w10.setCell ⟨p, 2, none⟩ (.bool true) := ⟨_, rfl⟩
    have K11 := Lib.hid (show Blk w11 p #[.int .u16 (vid2 : Nat), .int .i64 0, .bool true] 30 by rw [hw11]; exact K10.out.set 2 (.bool true))
    have F11 := Lib.hid (show Blk w11 f arr2 46 by rw [hw11]; exact F10.out.other (a := ⟨p, 2, none⟩) (fun e => FP.out e.symm) _)
    have O11 := Lib.hid (show OneV w b A B [⟨vid, x1, 0⟩] w11 by rw [hw11]; exact O10.out.setCell (a := ⟨p, 2, none⟩) (by have := PB.out; simpa using this) _)
    rw [← hw11]
    clear hw11 d2 fr2
    have k9 := K11.out
    have d0 : w11.cell? ⟨p, 0, none⟩ = some (.int .u16 (vid2 : Nat)) := k9.cell 0
    have d1 : w11.cell? ⟨p, 1, none⟩ = some (.int .i64 0) := k9.cell 1
    have d2 : w11.cell? ⟨p, 2, none⟩ = some (.bool true) := k9.cell 2
    clear k9
    cases has with
    | false =>
      have HI2 := Lib.hid (HIh.out w11 O11.out vid2 true arr2 true vid A12b.out A15b.out ASZb.out (by rw [OWN.out]; rfl) 0 3 (by rw [OWN.out]; rfl) (by rw [OWN.out]; rfl))
      go_upto_region 15 with (first
        | (refine wpList_val (.agg arr2) (by rfl) (run_loadVar_of 46 _ rfl f rfl 46 arr2 _ F11.out Try.underlying46 rfl SZb.out) ?_)
        | (go_at_call 14; with_reducible refine HI2.out.mono ?_; rintro e w12 ⟨rfl, hO12, hb12⟩))
      have B12 := Lib.hid hO12.below
      have ec : (x1 : Int) % 4294967296 = (x1 : Int) := by have := EX.out; omega
      clear d0 d1 d2 hO12 hb12
      go_wp2_with (go_at_call 13; with_reducible refine (HASC.out w12).mono ?_; rintro e w13 ⟨rfl, rfl⟩)
      go_ret
      exact ⟨rfl, B12.out⟩
    | true =>
      have HI2 := Lib.hid (HIh.out w11 O11.out vid2 true arr2 true vid A12b.out A15b.out ASZb.out (by rw [OWN.out]; rfl) (vid : Int) 0 (by rw [OWN.out]; rfl) (by rw [OWN.out]; rfl))
      go_upto_region 15 with (first
        | (refine wpList_val (.agg arr2) (by rfl) (run_loadVar_of 46 _ rfl f rfl 46 arr2 _ F11.out Try.underlying46 rfl SZb.out) ?_)
        | (go_at_call 14; with_reducible refine HI2.out.mono ?_; rintro e w12 ⟨rfl, hO12, hb12⟩))
      have B12 := Lib.hid hO12.below
      have ec : (x1 : Int) % 4294967296 = (x1 : Int) := by have := EX.out; omega
      clear d0 d1 d2 hO12 hb12
      go_wp2_with (go_at_call 13; with_reducible refine (HASC.out w12).mono ?_; rintro e w13 ⟨rfl, rfl⟩)
      go_ret
      exact ⟨rfl, B12.out⟩
end Go.Proofs.Ytpjfpcebjneblaa
end
section
namespace Go.Proofs.Ytpjfpcebjneblaa
open Go.RowKit
attribute [local irreducible] wpQuiet
set_option linter.unusedSimpArgs false
set_option linter.unusedVariables false

theorem wrap_u32 (x : Int) : IntKind.u32.wrap x = x % 4294967296 := rfl
/-- Pairs of numbers that came in. -/
def pC (p : Nat × Nat) : List Value := [.int .u16 (p.1 : Nat), .int .u16 (p.2 : Nat)]
def IsPairs (w : World) (a : Option Addr) (len cap : Nat) (l : List (Nat × Nat)) : Prop :=
  l.length = len ∧ RowsAt w a 2 pC l ∧ (∀ x ∈ l, x.1 < 65536 ∧ x.2 < 65536) ∧ (len ≤ cap ∧ cap ≤ maxLen) ∧ (a = none → len = 0 ∧ cap = 0)
/-- One that is there has a place. -/
theorem mem_at {x : Vl} {l : List Vl} (h : x ∈ l) : 0 ≤ atV x.vid l := by
  rcases atV_cases x.vid l with ⟨-, h2⟩ | ⟨k, y, h1, -, -⟩
  · exact absurd rfl (h2 x h)
  · omega
/-- Set twice is set once. -/
theorem setVE_again (l : List Vl) (x : Vl) : setVE (setV l x) x = setVE l x := by
  by_cases hg : goodV x = 0
  · by_cases h0 : 0 ≤ atV x.vid l
    · have e : setV l x = l.set (atV x.vid l).toNat x := by unfold setV; rw [if_neg (by simpa using hg), if_pos h0]
      have hm : x ∈ setV l x := by
        rcases atV_cases x.vid l with ⟨h1, -⟩ | ⟨k, y, h1, h2, -⟩
        · omega
        · rw [e, h1]
          have := (List.getElem?_eq_some_iff.1 h2).1
          exact List.mem_of_getElem? (i := k) (by simp [this])
      have := mem_at hm
      unfold setVE
      rw [if_neg (by simpa using hg), if_pos this, if_neg (by simpa using hg), if_pos h0]
    · by_cases hf : 16 ≤ l.length
      · have e : setV l x = l := by unfold setV; rw [if_neg (by simpa using hg), if_neg h0, if_pos hf]
        rw [e]
      · have e : setV l x = l.take (posV x.vid l) ++ [x] ++ l.drop (posV x.vid l) := by unfold setV; rw [if_neg (by simpa using hg), if_neg h0, if_neg hf]
        have hm : x ∈ setV l x := by rw [e]; simp
        have := mem_at hm
        unfold setVE
        rw [if_neg (by simpa using hg), if_pos this, if_neg (by simpa using hg), if_neg h0, if_neg hf]
  · have e : setV l x = l := by unfold setV; rw [if_pos hg]
    rw [e]

/-- The table, and a block of the law's own. -/
structure Ctx (w1 : World) (b A B P : Nat) (po : Array Value) (l : List Vl) (w : World) : Prop where
  one : OneV w1 b A B l w
  small : Small l
  low : B ≤ P
  blk : Blk w P po 30
theorem Ctx.next {w1 w w' : World} {b A B P : Nat} {po : Array Value} {l : List Vl} (h : Ctx w1 b A B P po l w) (hb : Below w.heap.size w w') : Ctx w1 b A B P po l w' :=
  ⟨h.one.next hb, h.small, h.low, h.blk.below hb h.blk.lt⟩
/-- Set: it answers this, and may have been set. -/
def CtxE (w1 : World) (b A B P : Nat) (po : Array Value) (x : Vl) (er : Int) (w : World) : Prop := ∃ l, Ctx w1 b A B P po l w ∧ setVE l x = er
theorem CtxE.below {w1 w : World} {b A B P : Nat} {po : Array Value} {x : Vl} {er : Int} (h : CtxE w1 b A B P po x er w) : Below w1.heap.size w1 w := by
  obtain ⟨l, h1, -⟩ := h
  exact h1.one.below
theorem CtxE.set {w1 w : World} {b A B P : Nat} {po : Array Value} {x : Vl} {er : Int} (h : CtxE w1 b A B P po x er w) :
    Calls Try.prog 10 #[.pointer (some ⟨b, 0, none⟩), vlV x] w fun e w' => e = .returned (.int .i64 er) ∧ CtxE w1 b A B P po x er w' := by
  obtain ⟨l, h1, h2⟩ := h
  refine (set_tm x h1.one.tab h1.one.low.2.1 h1.one.low.2.2).mono fun e w' ⟨q1, q2, q3⟩ => ⟨by rw [q1, h2], setV l x, ⟨h1.one.after q2 q3, setV_small h1.small x, h1.low, ?_⟩, by rw [setVE_again, h2]⟩
  exact (q3.block P (.inr h1.low) h1.blk.lt).trans h1.blk

/-- The cells of what is asked. -/
def Cells3 (w1 : World) (g : Nat) (pv : Nat) (ac : Int) (fi : Bool) (no : Int) (tg : Bool) (vi : Nat) (sl : Value) : Prop :=
  ∀ W, Below w1.heap.size w1 W → W.cell? ⟨g, 0, none⟩ = some (.int .u16 (pv : Nat)) ∧ W.cell? ⟨g, 1, none⟩ = some (.int .i64 ac) ∧ W.cell? ⟨g, 2, none⟩ = some (.bool fi) ∧ W.cell? ⟨g, 3, none⟩ = some (.int .i64 no) ∧
      W.cell? ⟨g, 4, none⟩ = some (.bool tg) ∧ W.cell? ⟨g, 5, none⟩ = some (.int .u16 (vi : Nat)) ∧ W.cell? ⟨g, 6, none⟩ = some sl
/-- The code from a statement on, that is in no loop. -/
def fromC (n : Nat) : Code → Option Code
  | .region id ops d => if id = n then some (.region id ops d) else none
  | .seq x y => match fromC n x with
    | some x' => some (.seq x' y)
    | none => fromC n y
  | .block _ c => fromC n c
  | .scope c => fromC n c
  | _ => none
noncomputable def tail3 (n : Nat) : Code := ((Try.f3.body.bind (fromC n)).getD .skip)
end Go.Proofs.Ytpjfpcebjneblaa
end
section
namespace Go.Proofs.Ytpjfpcebjneblaa
open Go.ChangeShapes Go.WideShapes Go.ChangeAt Go.RowKit Go.Deep
set_option linter.unusedVariables false
set_option linter.unusedSimpArgs false

theorem cellsQ3 : Try.prog.cellsOf 3 = 1 := by kernel_rfl
theorem cellsQ23 : Try.prog.cellsOf 23 = 1 := by kernel_rfl
theorem cellsQ25 : Try.prog.cellsOf 25 = 7 := by kernel_rfl
theorem cellsQ33 : Try.prog.cellsOf 33 = 2 := by kernel_rfl

section
variable {H : Type} {enc : TypeId × Value → H} {w : World} {base : Nat} {spare : Nat → Bool} {held : Bool}

/-- A field that is a slice. -/
theorem field_slice {t e : TypeId} {n : Nat} {c : Value} {z : DataW H × List MemPlace} (ht : Try.prog.underlying t = some (.slice e)) (hf : DataW.trod enc Try.prog w base spare held n t [c] = some z) :
    ∃ a len cap, c = .slice a len cap ∧ DataW.Trod enc Try.prog w base spare held t (.slice a len cap) z.1 z.2 := by
  have key : ∃ a len cap, c = .slice a len cap := by
    rcases open_slice ht hf with ⟨hcs, -⟩ | ⟨x, len', cap', m, n, D, Pl, hcs, -⟩
    · exact ⟨none, 0, 0, by simpa using hcs⟩
    · exact ⟨some x, len', cap', by simpa using hcs⟩
  obtain ⟨a, len, cap, rfl⟩ := key
  exact ⟨a, len, cap, rfl, n, by simpa [Value.cells] using hf⟩
/-- A slice of pairs. -/
theorem pairs_open {a : Option Addr} {len cap : Nat} {d : DataW H} {p : List MemPlace} (h : DataW.Trod enc Try.prog w base spare held 23 (.slice a len cap) d p) : ∃ l, IsPairs w a len cap l := by
  refine open_rows pC (fun x => x.1 < 65536 ∧ x.2 < 65536) Try.underlying23 cellsQ33 (by decide) (fun _ => rfl) ?_ h
  intro fuel cs y hcs hf
  match cs, hcs with
  | [c0, c1], _ =>
    obtain ⟨_, i2⟩ := arr_ints Try.underlying33 Try.underlying22 cellsS22 cellsQ33 hf
    obtain ⟨x0, e0, w0⟩ := i2 0 (by omega)
    obtain ⟨x1, e1, w1⟩ := i2 1 (by omega)
    obtain ⟨n0, rfl, l0⟩ := nat_of_u16 w0
    obtain ⟨n1, rfl, l1⟩ := nat_of_u16 w1
    refine ⟨(n0, n1), ?_, l0, l1⟩
    simp at e0 e1
    rw [e0, e1]
    rfl

set_option maxRecDepth 100000 in
theorem open_s25 {v : Value} {d : DataW H} {p : List MemPlace} {b0 : Nat} {r : Reach} (hv : Value.okWide Try.prog w r b0 25 v) (h : DataW.Trod enc Try.prog w base spare held 25 v d p) :
    ∃ (x0 : Int) (x1 : Int) (x2 : Bool) (x3 : Int) (x4 : Bool) (x5 : Int) (a : Option Addr) (len cap : Nat) (z : List (Nat × Nat)), v = .agg #[.int .u16 x0, .int .i64 x1, .bool x2, .int .i64 x3, .bool x4, .int .u16 x5, .slice a len cap] ∧
      (Lit.int .u16 x0).wf = true ∧ (Lit.int .u16 x5).wf = true ∧ IsPairs w a len cap z := by
  obtain ⟨cs, rfl, hsz⟩ := okWide_struct Try.underlying25 hv
  obtain ⟨fuel, hf⟩ := h
  have hsz : cs.toList.length = 7 := by rw [Array.length_toList]; exact hsz.trans cellsQ25
  obtain ⟨l⟩ := cs
  have hf : DataW.trod enc Try.prog w base spare held fuel 25 l = some (d, p) := hf
  obtain ⟨xs, n, _, _, _, hlen, hg⟩ := DataW.trod_struct Try.underlying25 hf
  match l, hsz with
  | [c0, c1, c2, c3, c4, c5, c6], _ =>
    match xs, hlen with
    | [z0, z1, z2, z3, z4, z5, z6], _ =>
      have g0 : DataW.trod enc Try.prog w base spare held n 22 (([c0, c1, c2, c3, c4, c5, c6].drop 0).take (Try.prog.cellsOf 22)) = some z0 := hg 0 _ rfl
      have g1 : DataW.trod enc Try.prog w base spare held n 3 (([c0, c1, c2, c3, c4, c5, c6].drop 1).take (Try.prog.cellsOf 3)) = some z1 := hg 1 _ rfl
      have g2 : DataW.trod enc Try.prog w base spare held n 4 (([c0, c1, c2, c3, c4, c5, c6].drop 2).take (Try.prog.cellsOf 4)) = some z2 := hg 2 _ rfl
      have g3 : DataW.trod enc Try.prog w base spare held n 3 (([c0, c1, c2, c3, c4, c5, c6].drop 3).take (Try.prog.cellsOf 3)) = some z3 := hg 3 _ rfl
      have g4 : DataW.trod enc Try.prog w base spare held n 4 (([c0, c1, c2, c3, c4, c5, c6].drop 4).take (Try.prog.cellsOf 4)) = some z4 := hg 4 _ rfl
      have g5 : DataW.trod enc Try.prog w base spare held n 22 (([c0, c1, c2, c3, c4, c5, c6].drop 5).take (Try.prog.cellsOf 22)) = some z5 := hg 5 _ rfl
      have g6 : DataW.trod enc Try.prog w base spare held n 23 (([c0, c1, c2, c3, c4, c5, c6].drop 6).take (Try.prog.cellsOf 23)) = some z6 := hg 6 _ rfl
      rw [cellsS22] at g0 g5
      rw [cellsQ3] at g1 g3
      rw [cellsS4] at g2 g4
      rw [cellsQ23] at g6
      obtain ⟨x0, e0, _, w0⟩ := DataW.trod_int Try.underlying22 g0
      obtain ⟨x1, e1, _, w1⟩ := DataW.trod_int Try.underlying3 g1
      obtain ⟨x2, e2, _⟩ := DataW.trod_bool Try.underlying4 g2
      obtain ⟨x3, e3, _, w3⟩ := DataW.trod_int Try.underlying3 g3
      obtain ⟨x4, e4, _⟩ := DataW.trod_bool Try.underlying4 g4
      obtain ⟨x5, e5, _, w5⟩ := DataW.trod_int Try.underlying22 g5
      obtain ⟨a, len, cap, e6, t6⟩ := field_slice Try.underlying23 g6
      obtain ⟨z, hz⟩ := pairs_open t6
      simp [Value.cells] at e0 e1 e2 e3 e4 e5
      subst e0 e1 e2 e3 e4 e5 e6
      exact ⟨x0, x1, x2, x3, x4, x5, a, len, cap, z, rfl, w0, w5, hz⟩
end
end Go.Proofs.Ytpjfpcebjneblaa
end
section
namespace Go.Proofs.Ytpjfpcebjneblaa
open Go.ChangeShapes Go.WideShapes Go.ChangeAt Go.RowKit Go.Deep
set_option linter.unusedVariables false
set_option linter.unusedSimpArgs false

theorem cellsP49 : Try.prog.cellsOf 49 = 1 := by kernel_rfl
theorem cellsP43 : Try.prog.cellsOf 43 = 6 := by kernel_rfl
theorem cellsP34 : Try.prog.cellsOf 34 = 1 := by kernel_rfl
theorem cellsP51 : Try.prog.cellsOf 51 = 12 := by kernel_rfl
theorem cellsP68 : Try.prog.cellsOf 68 = 2 := by kernel_rfl
/-- A pair of bytes. -/
def pC8 : Nat × Nat → List Value := fun p => [.int .u8 (p.1 : Nat), .int .u8 (p.2 : Nat)]
def IsPairs8 (w : World) (a : Option Addr) (len cap : Nat) (l : List (Nat × Nat)) : Prop :=
  l.length = len ∧ RowsAt w a 2 pC8 l ∧ (∀ x, x ∈ l → x.1 < 256 ∧ x.2 < 256) ∧ (len ≤ cap ∧ cap ≤ maxLen) ∧ (a = none → len = 0 ∧ cap = 0)

section
variable {H : Type} {enc : TypeId × Value → H} {w : World} {base : Nat} {spare : Nat → Bool} {held : Bool}
theorem pairs8_open {a : Option Addr} {len cap : Nat} {d : DataW H} {p : List MemPlace} (h : DataW.Trod enc Try.prog w base spare held 49 (.slice a len cap) d p) : ∃ l, IsPairs8 w a len cap l := by
  refine open_rows pC8 (fun x => x.1 < 256 ∧ x.2 < 256) Try.underlying49 cellsP68 (by decide) (fun _ => rfl) ?_ h
  intro fuel cs y hcs hf
  match cs, hcs with
  | [c0, c1], _ =>
    obtain ⟨_, i2⟩ := arr_ints Try.underlying68 Try.underlying5 cellsS5 cellsP68 hf
    obtain ⟨x0, e0, w0⟩ := i2 0 (by omega)
    obtain ⟨x1, e1, w1⟩ := i2 1 (by omega)
    obtain ⟨n0, rfl, l0⟩ := nat_of_u8 w0
    obtain ⟨n1, rfl, l1⟩ := nat_of_u8 w1
    refine ⟨(n0, n1), ?_, l0, l1⟩
    simp at e0 e1
    rw [e0, e1]
    rfl

set_option maxRecDepth 100000 in
theorem open_s51 {v : Value} {d : DataW H} {p : List MemPlace} {b0 : Nat} {r : Reach} (hv : Value.okWide Try.prog w r b0 51 v) (h : DataW.Trod enc Try.prog w base spare held 51 v d p) :
    ∃ (a1 : Option Addr) (n1 k1 : Nat) (z1 : List (Nat × Nat)) (a2 : Option Addr) (n2 k2 : Nat) (z2 : List (Nat × Nat)) (a3 : Option Addr) (n3 k3 : Nat) (z3 : List (Nat × Nat)) (fr vid : Int) (m0 m1 m2 m3 m4 m5 opn : Int),
      v = .agg #[.slice a1 n1 k1, .slice a2 n2 k2, .slice a3 n3 k3, .int .i64 fr, .int .u16 vid, .int .u8 m0, .int .u8 m1, .int .u8 m2, .int .u8 m3, .int .u8 m4, .int .u8 m5, .int .u32 opn] ∧
      IsPairs w a1 n1 k1 z1 ∧ IsPairs w a2 n2 k2 z2 ∧ IsPairs8 w a3 n3 k3 z3 ∧ (Lit.int .i64 fr).wf = true ∧ (Lit.int .u16 vid).wf = true ∧
      ((Lit.int .u8 m0).wf = true ∧ (Lit.int .u8 m1).wf = true ∧ (Lit.int .u8 m2).wf = true ∧ (Lit.int .u8 m3).wf = true ∧ (Lit.int .u8 m4).wf = true ∧ (Lit.int .u8 m5).wf = true) ∧ (Lit.int .u32 opn).wf = true := by
  obtain ⟨cs, rfl, hsz⟩ := okWide_struct Try.underlying51 hv
  obtain ⟨fuel, hf⟩ := h
  have hsz : cs.toList.length = 12 := by rw [Array.length_toList]; exact hsz.trans cellsP51
  obtain ⟨l⟩ := cs
  have hf : DataW.trod enc Try.prog w base spare held fuel 51 l = some (d, p) := hf
  obtain ⟨xs, n, _, _, _, hlen, hg⟩ := DataW.trod_struct Try.underlying51 hf
  match l, hsz with
  | [c0, c1, c2, c3, c4, c5, c6, c7, c8, c9, c10, c11], _ =>
    match xs, hlen with
    | [z0, z1, z2, z3, z4, z5, z6], _ =>
      have g0 : DataW.trod enc Try.prog w base spare held n 23 (([c0, c1, c2, c3, c4, c5, c6, c7, c8, c9, c10, c11].drop 0).take (Try.prog.cellsOf 23)) = some z0 := hg 0 _ rfl
      have g1 : DataW.trod enc Try.prog w base spare held n 23 (([c0, c1, c2, c3, c4, c5, c6, c7, c8, c9, c10, c11].drop 1).take (Try.prog.cellsOf 23)) = some z1 := hg 1 _ rfl
      have g2 : DataW.trod enc Try.prog w base spare held n 49 (([c0, c1, c2, c3, c4, c5, c6, c7, c8, c9, c10, c11].drop 2).take (Try.prog.cellsOf 49)) = some z2 := hg 2 _ rfl
      have g3 : DataW.trod enc Try.prog w base spare held n 3 (([c0, c1, c2, c3, c4, c5, c6, c7, c8, c9, c10, c11].drop 3).take (Try.prog.cellsOf 3)) = some z3 := hg 3 _ rfl
      have g4 : DataW.trod enc Try.prog w base spare held n 22 (([c0, c1, c2, c3, c4, c5, c6, c7, c8, c9, c10, c11].drop 4).take (Try.prog.cellsOf 22)) = some z4 := hg 4 _ rfl
      have g5 : DataW.trod enc Try.prog w base spare held n 43 (([c0, c1, c2, c3, c4, c5, c6, c7, c8, c9, c10, c11].drop 5).take (Try.prog.cellsOf 43)) = some z5 := hg 5 _ rfl
      have g6 : DataW.trod enc Try.prog w base spare held n 34 (([c0, c1, c2, c3, c4, c5, c6, c7, c8, c9, c10, c11].drop 11).take (Try.prog.cellsOf 34)) = some z6 := hg 6 _ rfl
      rw [cellsQ23] at g0 g1
      rw [cellsP49] at g2
      rw [cellsQ3] at g3
      rw [cellsS22] at g4
      rw [cellsP43] at g5
      rw [cellsP34] at g6
      obtain ⟨a1, n1, k1, e0, t0⟩ := field_slice Try.underlying23 g0
      obtain ⟨a2, n2, k2, e1, t1⟩ := field_slice Try.underlying23 g1
      obtain ⟨a3, n3, k3, e2, t2⟩ := field_slice Try.underlying49 g2
      obtain ⟨p1, h1⟩ := pairs_open t0
      obtain ⟨p2, h2⟩ := pairs_open t1
      obtain ⟨p3, h3⟩ := pairs8_open t2
      obtain ⟨fr, e3, _, w3⟩ := DataW.trod_int Try.underlying3 g3
      obtain ⟨vid, e4, _, w4⟩ := DataW.trod_int Try.underlying22 g4
      obtain ⟨opn, e6, _, w6⟩ := DataW.trod_int Try.underlying34 g6
      obtain ⟨_, im⟩ := arr_ints Try.underlying43 Try.underlying5 cellsS5 cellsP43 g5
      obtain ⟨m0, f0, y0⟩ := im 0 (by omega)
      obtain ⟨m1, f1, y1⟩ := im 1 (by omega)
      obtain ⟨m2, f2, y2⟩ := im 2 (by omega)
      obtain ⟨m3, f3, y3⟩ := im 3 (by omega)
      obtain ⟨m4, f4, y4⟩ := im 4 (by omega)
      obtain ⟨m5, f5, y5⟩ := im 5 (by omega)
      simp [Value.cells] at e3 e4 e6 f0 f1 f2 f3 f4 f5
      subst e0 e1 e2 e3 e4 e6 f0 f1 f2 f3 f4 f5
      exact ⟨a1, n1, k1, p1, a2, n2, k2, p2, a3, n3, k3, p3, fr, vid, m0, m1, m2, m3, m4, m5, opn, rfl, h1, h2, h3, w3, w4, ⟨y0, y1, y2, y3, y4, y5⟩, w6⟩
end
end Go.Proofs.Ytpjfpcebjneblaa
end
section
namespace Go.Proofs.Ytpjfpcebjneblaa
open Go.RowKit
set_option linter.unusedSimpArgs false
set_option linter.unusedVariables false

/-- Three tables, whatever is in them. -/
def TpX (w0 : World) (i : Ix) (P : Nat) (w : World) : Prop := ∃ lv ls lf, ls.length ≤ 16 ∧ Tp w0 i P lv ls lf w
section
variable {w0 w w' : World} {i : Ix} {P : Nat}
theorem TpX.next (h : TpX w0 i P w) (hb : Below w.heap.size w w') : TpX w0 i P w' := by
  obtain ⟨lv, ls, lf, h1, h2⟩ := h
  exact ⟨lv, ls, lf, h1, h2.next hb⟩
theorem TpX.below (h : TpX w0 i P w) : Below w0.heap.size w0 w := by
  obtain ⟨lv, ls, lf, h1, h2⟩ := h
  exact h2.t3.below
theorem TpX.cells (h : TpX w0 i P w) : w.cell? ⟨P, 0, none⟩ = some (.pointer (some ⟨i.b1, 0, none⟩)) ∧ w.cell? ⟨P, 1, none⟩ = some (.pointer (some ⟨i.b2, 0, none⟩)) ∧ w.cell? ⟨P, 2, none⟩ = some (.pointer (some ⟨i.b3, 0, none⟩)) := by
  obtain ⟨lv, ls, lf, h1, h2⟩ := h
  exact ⟨h2.blk.cell 0, h2.blk.cell 1, h2.blk.cell 2⟩
theorem TpX.setV (h : TpX w0 i P w) (x : Vl) : Calls Try.prog 10 #[.pointer (some ⟨i.b1, 0, none⟩), vlV x] w fun e w' => ∃ v, e = .returned v ∧ TpX w0 i P w' := by
  obtain ⟨lv, ls, lf, h1, h2⟩ := h
  exact (h2.setV x).mono fun e w' ⟨q1, q2⟩ => ⟨_, q1, _, _, _, h1, q2⟩
theorem TpX.setS (h : TpX w0 i P w) (x : Se) (hx : seOk x) : Calls Try.prog 17 #[.pointer (some ⟨i.b2, 0, none⟩), seV x] w fun e w' => ∃ v, e = .returned v ∧ TpX w0 i P w' := by
  obtain ⟨lv, ls, lf, h1, h2⟩ := h
  exact (h2.setS x hx (by omega)).mono fun e w' ⟨q1, q2⟩ => ⟨_, q1, _, _, _, setS_few ls x h1, q2⟩
theorem TpX.learn (h : TpX w0 i P w) (vid a : Nat) (port : Int) (ha : a < 281474976710656) :
    Calls Try.prog 19 #[.pointer (some ⟨i.b3, 0, none⟩), kyV vid a, .int .i64 port] w fun e w' => ∃ v, e = .returned v ∧ TpX w0 i P w' := by
  obtain ⟨lv, ls, lf, h1, h2⟩ := h
  exact (h2.learn vid a port ha).mono fun e w' ⟨v, l', q1, _, q3⟩ => ⟨v, q1, _, _, _, h1, q3⟩
end

/-- What came in, and the block that holds it. -/
structure EgH (w0 w1 : World) (g : Nat) (a1 : Option Addr) (n1 c1 : Nat) (z1 : List (Nat × Nat)) (a2 : Option Addr) (n2 c2 : Nat) (z2 : List (Nat × Nat)) (a3 : Option Addr) (n3 c3 : Nat) (z3 : List (Nat × Nat)) (fr : Int) (vid a opn : Nat) : Prop where
  low : Below w0.heap.size w0 w1
  cells : ∀ W, Below w1.heap.size w1 W → (W.cell? ⟨g, 0, none⟩ = some (.slice a1 n1 c1) ∧ W.cell? ⟨g, 1, none⟩ = some (.slice a2 n2 c2) ∧ W.cell? ⟨g, 2, none⟩ = some (.slice a3 n3 c3) ∧ W.cell? ⟨g, 3, none⟩ = some (.int .i64 fr) ∧ W.cell? ⟨g, 4, none⟩ = some (.int .u16 (vid : Nat)) ∧ W.cell? ⟨g, 11, none⟩ = some (.int .u32 (opn : Nat))) ∧
    (W.cell? ⟨g, 5, none⟩ = some (.int .u8 (byteF a 0 : Nat)) ∧ W.cell? ⟨g, 6, none⟩ = some (.int .u8 (byteF a 1 : Nat)) ∧ W.cell? ⟨g, 7, none⟩ = some (.int .u8 (byteF a 2 : Nat)) ∧ W.cell? ⟨g, 8, none⟩ = some (.int .u8 (byteF a 3 : Nat)) ∧ W.cell? ⟨g, 9, none⟩ = some (.int .u8 (byteF a 4 : Nat)) ∧ W.cell? ⟨g, 10, none⟩ = some (.int .u8 (byteF a 5 : Nat)))
  p1 : IsPairs w0 a1 n1 c1 z1
  p2 : IsPairs w0 a2 n2 c2 z2
  p3 : IsPairs8 w0 a3 n3 c3 z3
  ha : a < 281474976710656
  ho : opn < 4294967296
theorem pairs_row {w0 w1 : World} {a : Option Addr} {n c : Nat} {z : List (Nat × Nat)} (hb : Below w0.heap.size w0 w1) (h : IsPairs w0 a n c z) {k : Nat} (hk : k < n) :
    ∃ ab off x1 x2, a = some ⟨ab, off, none⟩ ∧ x1 < 65536 ∧ x2 < 65536 ∧ (k ≤ c ∧ n ≤ c) ∧ (∀ W, Below w1.heap.size w1 W → W.cell? ⟨ab, off + k * 2, none⟩ = some (.int .u16 (x1 : Nat)) ∧ W.cell? ⟨ab, off + k * 2 + 1, none⟩ = some (.int .u16 (x2 : Nat))) := by
  obtain ⟨hl, hr, hok, hc, hn⟩ := h
  obtain ⟨x, hx⟩ : ∃ x, z[k]? = some x := ⟨_, List.getElem?_eq_getElem (show k < z.length by omega)⟩
  rcases hr with hnil | ⟨ab, off, rfl, hab, hcells⟩
  · rw [hnil] at hx; simp at hx
  have ho := hok x (List.mem_of_getElem? hx)
  refine ⟨ab, off, x.1, x.2, rfl, ho.1, ho.2, by omega, fun W hW => ⟨?_, ?_⟩⟩
  · rw [(hb.trans (hW.mono hb.size)).cell (p := ⟨ab, off + k * 2, none⟩) hab]
    exact hcells k x hx 0 _ rfl
  · rw [(hb.trans (hW.mono hb.size)).cell (p := ⟨ab, off + k * 2 + 1, none⟩) hab]
    exact hcells k x hx 1 _ rfl
theorem pairs8_row {w0 w1 : World} {a : Option Addr} {n c : Nat} {z : List (Nat × Nat)} (hb : Below w0.heap.size w0 w1) (h : IsPairs8 w0 a n c z) {k : Nat} (hk : k < n) :
    ∃ ab off x1 x2, a = some ⟨ab, off, none⟩ ∧ x1 < 256 ∧ x2 < 256 ∧ (k ≤ c ∧ n ≤ c) ∧ (∀ W, Below w1.heap.size w1 W → W.cell? ⟨ab, off + k * 2, none⟩ = some (.int .u8 (x1 : Nat)) ∧ W.cell? ⟨ab, off + k * 2 + 1, none⟩ = some (.int .u8 (x2 : Nat))) := by
  obtain ⟨hl, hr, hok, hc, hn⟩ := h
  obtain ⟨x, hx⟩ : ∃ x, z[k]? = some x := ⟨_, List.getElem?_eq_getElem (show k < z.length by omega)⟩
  rcases hr with hnil | ⟨ab, off, rfl, hab, hcells⟩
  · rw [hnil] at hx; simp at hx
  have ho := hok x (List.mem_of_getElem? hx)
  refine ⟨ab, off, x.1, x.2, rfl, ho.1, ho.2, by omega, fun W hW => ⟨?_, ?_⟩⟩
  · rw [(hb.trans (hW.mono hb.size)).cell (p := ⟨ab, off + k * 2, none⟩) hab]
    exact hcells k x hx 0 _ rfl
  · rw [(hb.trans (hW.mono hb.size)).cell (p := ⟨ab, off + k * 2 + 1, none⟩) hab]
    exact hcells k x hx 1 _ rfl
noncomputable def tail5 (n : Nat) : Code := ((Try.f5.body.bind (fromC n)).getD .skip)
theorem wrapE_u32 {x : Nat} (h : x < 4294967296) : IntKind.u32.wrap (x : Int) = (x : Int) := by rw [wrap_u32]; omega
theorem wrapE_u64 {x : Nat} (h : x < 18446744073709551616) : IntKind.u64.wrap (x : Int) = (x : Int) := by rw [IntKind.wrap_u64]; omega
theorem wrapE_i64 {x : Nat} (h : x < 256) : IntKind.i64.wrap (x : Int) = (x : Int) := by
  simp [IntKind.wrap, IntKind.bits, IntKind.signed]
  omega
theorem tmod_nat (x m : Nat) : (x : Int).tmod (m : Int) = ((x % m : Nat) : Int) := by
  rw [Int.tmod_eq_emod_of_nonneg (by omega)]
  omega
end Go.Proofs.Ytpjfpcebjneblaa
end
section
namespace Go.Proofs.Ytpjfpcebjneblaa
open Go.RowKit
attribute [local irreducible] wpQuiet
set_option linter.unusedSimpArgs false
set_option linter.unusedVariables false

/-- What the last loop reads. -/
structure E22 (w1 : World) (M V : Nat) (a xv m u : Nat) (w : World) : Prop where
  below : Below w1.heap.size w1 w
  km : Blk w M (macA (byteF a)) 44
  kv : Blk w V #[.int .u16 (xv : Nat), .int .u32 (m : Nat), .int .u32 (u : Nat)] 37
theorem E22.next {w1 w w' : World} {M V a xv m u : Nat} (h : E22 w1 M V a xv m u w) (hb : Below w.heap.size w w') : E22 w1 M V a xv m u w' :=
  ⟨h.below.trans (hb.mono h.below.size), h.km.below hb h.km.lt, h.kv.below hb h.kv.lt⟩
theorem macSize44 : (Try.prog.info? 44).map (·.size) = some 6 := by kernel_rfl

set_option maxRecDepth 100000 in
set_option maxHeartbeats 16000000 in
theorem e16 (w0 w1 : World) (xs : Array Value) (g : Nat) (i : Ix) (P : Nat) (a1 : Option Addr) (n1 c1 : Nat) (z1 : List (Nat × Nat)) (a2 : Option Addr) (n2 c2 : Nat) (z2 : List (Nat × Nat)) (a3 : Option Addr) (n3 c3 : Nat) (z3 : List (Nat × Nat)) (fr : Int) (vid a opn : Nat) (HH : Hid (EgH w0 w1 g a1 n1 c1 z1 a2 n2 c2 z2 a3 n3 c3 z3 fr vid a opn)) (f4 f5 f6 f7 f8 f9 f10 f11 f12 f13 f14 f15 f16 f17 f18 f19 f20 f21 f22 f23 f24 f25 f26 f27 f28 f29 f30 f31 f32 f33 f34 f35 f36 f37 f38 f39 f40 f41 f42 f43 f44 f45 f46 f47 f48 f49 f50 f51 f52 f53 f54 f55 f56 f57 f58 f59 f60 f61 f62 f63 f64 f65 f66 f67 f68 f69 f70 f71 f72 f73 f74 f75 f76 f77 f78 f79 f80 f81 f82 f83 f84 f85 f86 f87 f88 f89 f90 f91 f92 f93 f94 f95 f96 f97 f98 f99 f100 f101 f102 f103 f104 f105 f106 f107 f108 f109 f110 f111 f112 f113 f114 f115 f116 f117 f118 f119 f120 f121 f122 f123 f124 f125 f126 f127 f128 f129 f130 f131 f132 f133 f134 f135 f136 f137 f138 f139 f140 f141 f142 f143 f144 f145 f146 f147 f148 f149 f150 f151 f152 f153 f154 f155 f156 f157 f158 f159 f160 f161 f162 f163 f164 f165 f166 f167 f168 f169 f170 f171 f172 f173 f174 f175 f176 f177 f178 f179 f180 f181 f182 f183 f184 f185 f186 f187 f188 f189 f190 f191 f192 f193 f194 f195 f196 f197 f198 f199 : Value) (wc : World) (KC : TpX w1 i P wc) :
    Code.wp Try.prog (tail5 16) (bodyPost Try.prog Try.f5 fun e w' => e = .returned (.bool true) ∧ Below w0.heap.size w0 w') { tmps := #[.agg xs, .pointer (some ⟨g, 0, none⟩), .bool false, .pointer (some ⟨P, 0, none⟩), f4, f5, f6, f7, f8, f9, f10, f11, f12, f13, f14, f15, f16, f17, f18, f19, f20, f21, f22, f23, f24, f25, f26, f27, f28, f29, f30, f31, f32, f33, f34, f35, f36, f37, f38, f39, f40, f41, f42, f43, f44, f45, f46, f47, f48, f49, f50, f51, f52, f53, f54, f55, f56, f57, f58, f59, f60, f61, f62, f63, f64, f65, f66, f67, f68, f69, f70, f71, f72, f73, f74, f75, f76, f77, f78, f79, f80, f81, f82, f83, f84, f85, f86, f87, f88, f89, f90, f91, f92, f93, f94, f95, f96, f97, f98, f99, f100, f101, f102, f103, f104, f105, f106, f107, f108, f109, f110, f111, f112, f113, f114, f115, f116, f117, f118, f119, f120, f121, f122, f123, f124, f125, f126, f127, f128, f129, f130, f131, f132, f133, f134, f135, f136, f137, f138, f139, f140, f141, f142, f143, f144, f145, f146, f147, f148, f149, f150, f151, f152, f153, f154, f155, f156, f157, f158, f159, f160, f161, f162, f163, f164, f165, f166, f167, f168, f169, f170, f171, f172, f173, f174, f175, f176, f177, f178, f179, f180, f181, f182, f183, f184, f185, f186, f187, f188, f189, f190, f191, f192, f193, f194, f195, f196, f197, f198, f199], defers := [] } wc := by
  have K0 := Lib.hid KC
  clear KC
  conv => arg 2; whnf
  conv => arg 4; zeta
  obtain ⟨lv, ls, lf, -, hT⟩ := K0.out
  have T0 := Lib.hid hT
  clear hT
  have LOW := Lib.hid HH.out.low
  have GB := Lib.hid (show ∀ p : Int, 1 ≤ p → p ≤ 16 → hasB (portsN fr vid a opn lv ls lf) p = ((((((findV vid lv).2 && !resB (byteF a)) && hasB (findV vid lv).1.mem p) && p != fr) && hasB opn p) && (if (findS (keyN vid a) ls).2 = true then hasB (findS (keyN vid a) ls).1 p else if (findF (keyN vid a) lf).2 = true then (findF (keyN vid a) lf).1 == p else true)) from fun p h1 h2 => by rw [ports_bit h1 h2, tow_bit h1 h2])
  have GL := Lib.hid (show portsN fr vid a opn lv ls lf < 65536 from ports_small T0.out.t3.smV)
  have PC := Lib.hid (show ∀ W, Tp w1 i P lv ls lf W → Calls Try.prog 20 #[.agg (t3A i), .int .i64 fr, .int .u16 (vid : Nat), mac (byteF a), .int .u32 (opn : Nat)] W fun e w' => e = .returned (.int .u32 (portsN fr vid a opn lv ls lf : Nat)) ∧ Below W.heap.size W w' from fun W hW => ports_any fr vid a opn HH.out.ha HH.out.ho hW.t3)
  have GV := Lib.hid (show ∀ W, Tp w1 i P lv ls lf W → Calls Try.prog 12 #[.pointer (some ⟨i.b1, 0, none⟩), .int .u16 (vid : Nat)] W fun e w' => e = .returned (.tuple #[vlV (findV vid lv).1, .bool (findV vid lv).2]) ∧ Below W.heap.size W w' from fun W hW => get_find vid hW.t3.tabV)
  have GS := Lib.hid (show ∀ W, Tp w1 i P lv ls lf W → Calls Try.prog 21 #[.pointer (some ⟨i.b2, 0, none⟩), kyV vid a] W fun e w' => e = .returned (.tuple #[.int .u32 ((findS (keyN vid a) ls).1 : Nat), .bool (findS (keyN vid a) ls).2]) ∧ Below W.heap.size W w' from fun W hW => get_s vid a HH.out.ha hW.t3.tabS)
  have GF := Lib.hid (show ∀ W, Tp w1 i P lv ls lf W → Calls Try.prog 22 #[.pointer (some ⟨i.b3, 0, none⟩), kyV vid a] W fun e w' => e = .returned (.tuple #[.int .i64 (findF (keyN vid a) lf).1, .bool (findF (keyN vid a) lf).2]) ∧ Below W.heap.size W w' from fun W hW => find_f vid a HH.out.ha hW.t3.tabF)
  have SMV := Lib.hid (findV_small T0.out.t3.smV vid)
  have SMS := Lib.hid (findS_small T0.out.t3.smS (keyN vid a))
  have RES := Lib.hid (show ∀ W : World, Calls Try.prog 23 #[mac (byteF a)] W fun e w' => e = .returned (.bool (resB (byteF a))) ∧ Below W.heap.size W w' from fun W => reserved_any (byteF a) W (byteF_six a))
  have OL := Lib.hid HH.out.ho
  generalize portsN fr vid a opn lv ls lf = got at *
  generalize (findV vid lv).2 = found at *
  generalize (findV vid lv).1 = xx at *
  generalize (findS (keyN vid a) ls).1 = sv at *
  generalize (findS (keyN vid a) ls).2 = sf at *
  generalize (findF (keyN vid a) lf).1 = fv at *
  generalize (findF (keyN vid a) lf).2 = ff at *
  generalize resB (byteF a) = res at *
  obtain ⟨xv, m, u⟩ := xx
  obtain ⟨⟨c0, c1, c2, c3, c4, c11⟩, c5, c6, c7, c8, c9, c10⟩ := HH.out.cells wc K0.out.below
  go_upto_region 17 with fail
  obtain ⟨M, hM⟩ : ∃ M, M = wc.heap.size := ⟨_, rfl⟩
  obtain ⟨w16, hw16⟩ : ∃ w16, w16 = wc.alloc (.cells (macA (byteF a)) 44) := ⟨_, rfl⟩
  have T16 := Lib.hid (show Tp w1 i P lv ls lf w16 by rw [hw16]; exact T0.out.next ((Below.refl _ _).alloc (Nat.le_refl _) _))
  have KM := Lib.hid (show Blk w16 M (macA (byteF a)) 44 by rw [hw16, hM]; exact Blk.new _ _ _)
  rw [← hw16, ← hM]
  clear hw16 hM c0 c1 c2 c3 c4 c5 c6 c7 c8 c9 c10 c11
  obtain ⟨⟨c0, c1, c2, c3, c4, c11⟩, c5, c6, c7, c8, c9, c10⟩ := HH.out.cells w16 T16.out.t3.below
  clear c0 c1 c2 c5 c6 c7 c8 c9 c10
  have d0 : w16.cell? ⟨P, 0, none⟩ = some (.pointer (some ⟨i.b1, 0, none⟩)) := T16.out.blk.cell 0
  have d1 : w16.cell? ⟨P, 1, none⟩ = some (.pointer (some ⟨i.b2, 0, none⟩)) := T16.out.blk.cell 1
  have d2 : w16.cell? ⟨P, 2, none⟩ = some (.pointer (some ⟨i.b3, 0, none⟩)) := T16.out.blk.cell 2
  obtain ⟨m0, m1, m2, m3, m4, m5⟩ := k6c KM.out
  go_upto_region 18 with (go_at_call 20; with_reducible refine (PC.out w16 T16.out).mono ?_; rintro e w17 ⟨rfl, hb17⟩)
  have T17 := Lib.hid (T16.out.next hb17)
  have KM17 := Lib.hid (KM.out.below hb17 KM.out.lt)
  clear hb17 c3 c4 c11 d0 d1 d2 m0 m1 m2 m3 m4 m5
  have c4 := (HH.out.cells w17 T17.out.t3.below).1.2.2.2.2.1
  have d0 : w17.cell? ⟨P, 0, none⟩ = some (.pointer (some ⟨i.b1, 0, none⟩)) := T17.out.blk.cell 0
  go_upto_region 19 with (go_at_call 12; with_reducible refine (GV.out w17 T17.out).mono ?_; rintro e w18 ⟨rfl, hb18⟩)
  obtain ⟨V, hV⟩ : ∃ V, V = w18.heap.size := ⟨_, rfl⟩
  obtain ⟨w19, hw19⟩ : ∃ w19, w19 = w18.alloc (.cells #[.int .u16 (xv : Nat), .int .u32 (m : Nat), .int .u32 (u : Nat)] 37) := ⟨_, rfl⟩
  have b19 : Below w17.heap.size w17 w19 := by rw [hw19]; exact hb18.alloc hb18.size _
  have T19 := Lib.hid (T17.out.next b19)
  have KM19 := Lib.hid (KM17.out.below b19 KM17.out.lt)
  have KV19 := Lib.hid (show Blk w19 V #[.int .u16 (xv : Nat), .int .u32 (m : Nat), .int .u32 (u : Nat)] 37 by rw [hw19, hV]; exact Blk.new _ _ _)
  rw [← hw19, ← hV]
  clear hw19 hV b19 hb18 c4 d0
  have c4 := (HH.out.cells w19 T19.out.t3.below).1.2.2.2.2.1
  obtain ⟨m0, m1, m2, m3, m4, m5⟩ := k6c KM19.out
  go_upto_region 20 with fail
  obtain ⟨K, hK⟩ : ∃ K, K = w19.heap.size := ⟨_, rfl⟩
  obtain ⟨w20, hw20⟩ : ∃ w20, w20 = w19.alloc (.cells (kyA vid a) 61) := ⟨_, rfl⟩
  have b20 : Below w19.heap.size w19 w20 := by rw [hw20]; exact (Below.refl _ _).alloc (Nat.le_refl _) _
  have T20 := Lib.hid (T19.out.next b20)
  have KM20 := Lib.hid (KM19.out.below b20 KM19.out.lt)
  have KV20 := Lib.hid (KV19.out.below b20 KV19.out.lt)
  have KK20 := Lib.hid (show Blk w20 K (kyA vid a) 61 by rw [hw20, hK]; exact Blk.new _ _ _)
  rw [← hw20, ← hK]
  clear hw20 hK b20 c4 m0 m1 m2 m3 m4 m5
  have d1 : w20.cell? ⟨P, 1, none⟩ = some (.pointer (some ⟨i.b2, 0, none⟩)) := T20.out.blk.cell 1
  obtain ⟨k0, k1, k2, k3, k4, k5, k6⟩ := k7 KK20.out
  go_upto_region 21 with (go_at_call 21; with_reducible refine (GS.out w20 T20.out).mono ?_; rintro e w21 ⟨rfl, hb21⟩)
  have T21 := Lib.hid (T20.out.next hb21)
  have KM21 := Lib.hid (KM20.out.below hb21 KM20.out.lt)
  have KV21 := Lib.hid (KV20.out.below hb21 KV20.out.lt)
  have KK21 := Lib.hid (KK20.out.below hb21 KK20.out.lt)
  clear hb21 d1 k0 k1 k2 k3 k4 k5 k6
  have d2 : w21.cell? ⟨P, 2, none⟩ = some (.pointer (some ⟨i.b3, 0, none⟩)) := T21.out.blk.cell 2
  obtain ⟨k0, k1, k2, k3, k4, k5, k6⟩ := k7 KK21.out
  go_upto_region 22 with (go_at_call 22; with_reducible refine (GF.out w21 T21.out).mono ?_; rintro e w22 ⟨rfl, hb22⟩)
  have T22 := Lib.hid (T21.out.next hb22)
  have E0 := Lib.hid (show E22 w1 M V a xv m u w22 from ⟨T22.out.t3.below, KM21.out.below hb22 KM21.out.lt, KV21.out.below hb22 KV21.out.lt⟩)
  clear hb22 d2 k0 k1 k2 k3 k4 k5 k6 PC GV GS GF T0 T16 T17 T19 T20 T21 T22 KM KM17 KM19 KM20 KM21 KV19 KV20 KV21 KK20 KK21
  go_upto_region 23 with fail
  go_loopw [16] (fun j wr => ∃ p : Nat, 1 ≤ p ∧ p ≤ 17 ∧ j = .int .i64 p ∧ E22 w1 M V a xv m u wr) (fun j _ => (17 - intOf j).toNat)
  case atStart => exact ⟨1, by omega, by omega, rfl, E0.out⟩
  case round =>
    obtain ⟨p, hp1, hp2, rfl, hI⟩ := hrel
    have HI := Lib.hid hI
    clear hI
    by_cases hlt : p ≤ 16
    · obtain ⟨pp, hpp⟩ : ∃ pp : Int, pp = (p : Int) := ⟨_, rfl⟩
      have G := Lib.hid (GB.out p (by omega) (by omega))
      have C1 := Lib.hid (show ∀ W : World, Calls Try.prog 13 #[.int .u32 (m : Nat), .int .i64 (p : Nat)] W fun e w' => e = .returned (.bool (hasB m p)) ∧ W = w' from fun W => has_any m p W (Nat.lt_trans SMV.out.1 (by decide)))
      have C2 := Lib.hid (show ∀ W : World, Calls Try.prog 13 #[.int .u32 (opn : Nat), .int .i64 (p : Nat)] W fun e w' => e = .returned (.bool (hasB opn p)) ∧ W = w' from fun W => has_any opn p W OL.out)
      have C3 := Lib.hid (show ∀ W : World, Calls Try.prog 13 #[.int .u32 (sv : Nat), .int .i64 (p : Nat)] W fun e w' => e = .returned (.bool (hasB sv p)) ∧ W = w' from fun W => has_any sv p W (Nat.lt_trans SMS.out (by decide)))
      have C4 := Lib.hid (show ∀ W : World, Calls Try.prog 13 #[.int .u32 (got : Nat), .int .i64 (p : Nat)] W fun e w' => e = .returned (.bool (hasB got p)) ∧ W = w' from fun W => has_any got p W (Nat.lt_trans GL.out (by decide)))
      obtain ⟨np, enp⟩ : ∃ np, ((p : Int) != fr) = np := ⟨_, rfl⟩
      obtain ⟨fq, efq⟩ : ∃ fq, (fv == (p : Int)) = fq := ⟨_, rfl⟩
      rw [enp, efq] at G
      generalize hasB m (p : Int) = hm at *
      generalize hasB opn (p : Int) = ho at *
      generalize hasB sv (p : Int) = hs at *
      generalize hasB got (p : Int) = gb at *
      obtain ⟨w25, hw25⟩ : ∃ w25, w25 = ((((found && !res) && hm) && np) && ho) := ⟨_, rfl⟩
      have W25 := Lib.hid hw25
      rw [← hw25] at G
      clear hw25
      go_upto_region 25 with fail
      obtain ⟨⟨c0, c1, c2, c3, c4, c11⟩, -⟩ := HH.out.cells wr HI.out.below
      clear c0 c1 c2 c4
      obtain ⟨m0, m1, m2, m3, m4, m5⟩ := k6c HI.out.km
      have v1 : wr.cell? ⟨V, 1, none⟩ = some (.int .u32 (m : Nat)) := HI.out.kv.cell 1
      go_cut [17] from 151 to 197 (fun s wx => s = .bool w25 ∧ E22 w1 M V a xv m u wx)
      case first =>
        cases found with
        | false =>
          go_wp2_with fail
          go_meet
          exact ⟨by rw [W25.out]; rfl, HI.out⟩
        | true =>
          cases res with
          | true =>
            go_wp2_with (go_at_call 23; with_reducible refine (RES.out _).mono ?_; rintro e w26 ⟨rfl, hb26⟩; have I26 := Lib.hid (HI.out.next hb26); clear hb26)
            go_meet
            exact ⟨by rw [W25.out]; rfl, I26.out⟩
          | false =>
            have V1 := Lib.hid (show ∀ W, E22 w1 M V a xv m u W → W.cell? ⟨V, 1, none⟩ = some (.int .u32 (m : Nat)) from fun W hW => hW.kv.cell 1)
            have X3 := Lib.hid (show ∀ W, E22 w1 M V a xv m u W → W.cell? ⟨g, 3, none⟩ = some (.int .i64 fr) from fun W hW => (HH.out.cells W hW.below).1.2.2.2.1)
            have X11 := Lib.hid (show ∀ W, E22 w1 M V a xv m u W → W.cell? ⟨g, 11, none⟩ = some (.int .u32 (opn : Nat)) from fun W hW => (HH.out.cells W hW.below).1.2.2.2.2.2)
            clear c3 c11 v1
            cases hm with
            | false =>
              go_wp2_with (first
                | (go_at_call 23; with_reducible refine (RES.out _).mono ?_; rintro e w26 ⟨rfl, hb26⟩; have I26 := Lib.hid (HI.out.next hb26); clear hb26; have v1 := V1.out _ I26.out)
                | (go_at_call 13; with_reducible refine (C1.out _).mono ?_; rintro e w27 ⟨rfl, rfl⟩))
              go_meet
              exact ⟨by rw [W25.out]; rfl, I26.out⟩
            | true =>
              cases np with
              | false =>
                go_wp2_with (first
                  | (go_at_call 23; with_reducible refine (RES.out _).mono ?_; rintro e w26 ⟨rfl, hb26⟩; have I26 := Lib.hid (HI.out.next hb26); clear hb26; have v1 := V1.out _ I26.out; have c3 := X3.out _ I26.out)
                  | (go_at_call 13; with_reducible refine (C1.out _).mono ?_; rintro e w27 ⟨rfl, rfl⟩))
                go_meet
                exact ⟨by rw [W25.out]; rfl, I26.out⟩
              | true =>
                go_wp2_with (first
                  | (go_at_call 23; with_reducible refine (RES.out _).mono ?_; rintro e w26 ⟨rfl, hb26⟩; have I26 := Lib.hid (HI.out.next hb26); clear hb26; have v1 := V1.out _ I26.out; have c3 := X3.out _ I26.out; have c11 := X11.out _ I26.out)
                  | (go_at_call 13; with_reducible refine (C1.out _).mono ?_; rintro e w27 ⟨rfl, rfl⟩)
                  | (go_at_call 13; with_reducible refine (C2.out _).mono ?_; rintro e w28 ⟨rfl, rfl⟩))
                go_meet
                exact ⟨by rw [W25.out]; cases ho <;> rfl, I26.out⟩
      case rest =>
        obtain ⟨rfl, hC⟩ := hcut
        have J := Lib.hid hC
        clear hC c3 c11 v1 m0 m1 m2 m3 m4 m5 W25 RES C1 C2
        go_upto_if 179 with fail
        go_cut [17] from 151 to 197 (fun s wx => s = .bool gb ∧ E22 w1 M V a xv m u wx)
        case first =>
          cases sf with
          | true =>
            have GG := Lib.hid (show gb = (w25 && hs) by rw [G.out, if_pos rfl])
            cases w25 with
            | false =>
              go_wp2_with fail
              go_meet
              exact ⟨by rw [GG.out]; rfl, J.out⟩
            | true =>
              go_wp2_with (go_at_call 13; with_reducible refine (C3.out _).mono ?_; rintro e w29 ⟨rfl, rfl⟩)
              go_meet
              exact ⟨by rw [GG.out]; rfl, J.out⟩
          | false =>
            cases ff with
            | true =>
              have GG := Lib.hid (show gb = (w25 && fq) by rw [G.out, if_neg (by decide), if_pos rfl])
              cases w25 with
              | false =>
                go_wp2_with fail
                go_meet
                exact ⟨by rw [GG.out]; rfl, J.out⟩
              | true =>
                go_wp2_with fail
                go_meet
                exact ⟨by rw [GG.out]; rfl, J.out⟩
            | false =>
              have GG := Lib.hid (show gb = w25 by rw [G.out, if_neg (by decide), if_neg (by decide), Bool.and_true])
              go_wp2_with fail
              go_meet
              exact ⟨by rw [GG.out], J.out⟩
        case rest =>
          obtain ⟨rfl, hC⟩ := hcut
          have J2 := Lib.hid hC
          clear hC C3 G
          cases gb with
          | false =>
            go_wp2_with (go_at_call 13; with_reducible refine (C4.out _).mono ?_; rintro e w30 ⟨rfl, rfl⟩)
            go_roundw
            case rel => exact ⟨p + 1, by omega, by omega, by go_num, J2.out⟩
            case measure => simp [intOf]; omega
          | true =>
            go_wp2_with (go_at_call 13; with_reducible refine (C4.out _).mono ?_; rintro e w30 ⟨rfl, rfl⟩)
            go_roundw
            case rel => exact ⟨p + 1, by omega, by omega, by go_num, J2.out⟩
            case measure => simp [intOf]; omega
    · have : p = 17 := by omega
      subst this
      have gl : decide ((got : Int) < 65536) = true := by have := GL.out; simp; omega
      go_wp2_with fail
      go_ret
      exact ⟨rfl, LOW.out.trans (HI.out.below.mono LOW.out.size)⟩
end Go.Proofs.Ytpjfpcebjneblaa
end
section
namespace Go.Proofs.Ytpjfpcebjneblaa
open Go.RowKit
attribute [local irreducible] wpQuiet
set_option linter.unusedSimpArgs false
set_option linter.unusedVariables false

/-- The slots, while the region runs. -/
structure R15S (g P : Nat) (i : Ix) (xs : Array Value) (ab off k nn cc x1 x2 y : Nat) (f4 f5 f7 f8 f9 f10 f11 f12 f13 f14 f15 f16 f17 f18 f19 f20 f21 f22 f23 f24 f25 f26 f27 f28 f29 f30 f31 f32 f33 f34 f35 f36 f37 f38 f39 f40 f41 f42 f43 f44 f45 f46 f47 f48 f49 f50 f51 f52 f53 f54 f55 f56 f57 f58 f59 f60 f61 f62 f63 f64 f65 f66 f67 f68 f69 f70 f71 f72 f73 f74 f75 f76 f77 f78 f79 f80 f81 f82 f83 f84 f85 f86 f87 f88 f89 f90 f91 f92 f93 f114 f115 f116 f117 f118 f119 f120 f121 f122 f123 f124 f125 f126 f127 f128 f129 f130 f131 f132 f133 f134 f135 f136 f137 f138 f139 f140 f141 f142 f143 f144 f145 f146 f147 f148 f149 f150 f151 f152 f153 f154 f155 f156 f157 f158 f159 f160 f161 f162 f163 f164 f165 f166 f167 f168 f169 f170 f171 f172 f173 f174 f175 f176 f177 f178 f179 f180 f181 f182 f183 f184 f185 f186 f187 f188 f189 f190 f191 f192 f193 f194 f195 f196 f197 f198 f199 : Value) (L : Nat → Bool) (v94 v95 v96 v97 v98 v99 v100 v101 v102 v103 v104 v105 v106 v107 v108 v109 v110 v111 v112 v113 : Value) : Prop where
  e94 : L 0 = true → v94 = .pointer (some ⟨P, 2, none⟩)
  e95 : L 1 = true → v95 = .pointer (some ⟨i.b3, 0, none⟩)
  e96 : L 2 = true → v96 = .pointer (some ⟨g, 2, none⟩)
  e97 : L 3 = true → v97 = .slice (some ⟨ab, off, none⟩) nn cc
  e98 : L 4 = true → v98 = .int .i64 (k : Nat)
  e99 : L 5 = true → v99 = .pointer (some ⟨ab, off + k * 2, none⟩)
  e100 : L 6 = true → v100 = .pointer (some ⟨ab, off + k * 2, none⟩)
  e101 : L 7 = true → v101 = .int .u8 (x1 : Nat)
  e102 : L 8 = true → v102 = .int .u8 (y : Nat)
  e103 : L 9 = true → v103 = .int .u64 (y : Nat)
  e104 : L 10 = true → v104 = mac (byteF y)
  e105 : L 11 = true → v105 = kyV 1 y
  e106 : L 12 = true → v106 = .pointer (some ⟨g, 2, none⟩)
  e107 : L 13 = true → v107 = .slice (some ⟨ab, off, none⟩) nn cc
  e108 : L 14 = true → v108 = .int .i64 (k : Nat)
  e109 : L 15 = true → v109 = .pointer (some ⟨ab, off + k * 2, none⟩)
  e110 : L 16 = true → v110 = .pointer (some ⟨ab, off + k * 2 + 1, none⟩)
  e111 : L 17 = true → v111 = .int .u8 (x2 : Nat)
  e112 : L 18 = true → v112 = .int .i64 (x2 : Nat)
abbrev R15F (g P : Nat) (i : Ix) (xs : Array Value) (ab off k nn cc x1 x2 y : Nat) (f4 f5 f7 f8 f9 f10 f11 f12 f13 f14 f15 f16 f17 f18 f19 f20 f21 f22 f23 f24 f25 f26 f27 f28 f29 f30 f31 f32 f33 f34 f35 f36 f37 f38 f39 f40 f41 f42 f43 f44 f45 f46 f47 f48 f49 f50 f51 f52 f53 f54 f55 f56 f57 f58 f59 f60 f61 f62 f63 f64 f65 f66 f67 f68 f69 f70 f71 f72 f73 f74 f75 f76 f77 f78 f79 f80 f81 f82 f83 f84 f85 f86 f87 f88 f89 f90 f91 f92 f93 f114 f115 f116 f117 f118 f119 f120 f121 f122 f123 f124 f125 f126 f127 f128 f129 f130 f131 f132 f133 f134 f135 f136 f137 f138 f139 f140 f141 f142 f143 f144 f145 f146 f147 f148 f149 f150 f151 f152 f153 f154 f155 f156 f157 f158 f159 f160 f161 f162 f163 f164 f165 f166 f167 f168 f169 f170 f171 f172 f173 f174 f175 f176 f177 f178 f179 f180 f181 f182 f183 f184 f185 f186 f187 f188 f189 f190 f191 f192 f193 f194 f195 f196 f197 f198 f199 : Value) (v94 v95 v96 v97 v98 v99 v100 v101 v102 v103 v104 v105 v106 v107 v108 v109 v110 v111 v112 v113 : Value) : Act := { tmps := #[.agg xs, .pointer (some ⟨g, 0, none⟩), .bool false, .pointer (some ⟨P, 0, none⟩), f4, f5, .int .i64 (k : Nat), f7, f8, f9, f10, f11, f12, f13, f14, f15, f16, f17, f18, f19, f20, f21, f22, f23, f24, f25, f26, f27, f28, f29, f30, f31, f32, f33, f34, f35, f36, f37, f38, f39, f40, f41, f42, f43, f44, f45, f46, f47, f48, f49, f50, f51, f52, f53, f54, f55, f56, f57, f58, f59, f60, f61, f62, f63, f64, f65, f66, f67, f68, f69, f70, f71, f72, f73, f74, f75, f76, f77, f78, f79, f80, f81, f82, f83, f84, f85, f86, f87, f88, f89, f90, f91, f92, f93, v94, v95, v96, v97, v98, v99, v100, v101, v102, v103, v104, v105, v106, v107, v108, v109, v110, v111, v112, v113, f114, f115, f116, f117, f118, f119, f120, f121, f122, f123, f124, f125, f126, f127, f128, f129, f130, f131, f132, f133, f134, f135, f136, f137, f138, f139, f140, f141, f142, f143, f144, f145, f146, f147, f148, f149, f150, f151, f152, f153, f154, f155, f156, f157, f158, f159, f160, f161, f162, f163, f164, f165, f166, f167, f168, f169, f170, f171, f172, f173, f174, f175, f176, f177, f178, f179, f180, f181, f182, f183, f184, f185, f186, f187, f188, f189, f190, f191, f192, f193, f194, f195, f196, f197, f198, f199], defers := [] }
def R15I (g P : Nat) (i : Ix) (xs : Array Value) (ab off k nn cc x1 x2 y : Nat) (f4 f5 f7 f8 f9 f10 f11 f12 f13 f14 f15 f16 f17 f18 f19 f20 f21 f22 f23 f24 f25 f26 f27 f28 f29 f30 f31 f32 f33 f34 f35 f36 f37 f38 f39 f40 f41 f42 f43 f44 f45 f46 f47 f48 f49 f50 f51 f52 f53 f54 f55 f56 f57 f58 f59 f60 f61 f62 f63 f64 f65 f66 f67 f68 f69 f70 f71 f72 f73 f74 f75 f76 f77 f78 f79 f80 f81 f82 f83 f84 f85 f86 f87 f88 f89 f90 f91 f92 f93 f114 f115 f116 f117 f118 f119 f120 f121 f122 f123 f124 f125 f126 f127 f128 f129 f130 f131 f132 f133 f134 f135 f136 f137 f138 f139 f140 f141 f142 f143 f144 f145 f146 f147 f148 f149 f150 f151 f152 f153 f154 f155 f156 f157 f158 f159 f160 f161 f162 f163 f164 f165 f166 f167 f168 f169 f170 f171 f172 f173 f174 f175 f176 f177 f178 f179 f180 f181 f182 f183 f184 f185 f186 f187 f188 f189 f190 f191 f192 f193 f194 f195 f196 f197 f198 f199 : Value) (w1 : World) (L : Nat → Bool) (ac : Act) (w : World) : Prop :=
  ∃ v94 v95 v96 v97 v98 v99 v100 v101 v102 v103 v104 v105 v106 v107 v108 v109 v110 v111 v112 v113, ac = R15F g P i xs ab off k nn cc x1 x2 y f4 f5 f7 f8 f9 f10 f11 f12 f13 f14 f15 f16 f17 f18 f19 f20 f21 f22 f23 f24 f25 f26 f27 f28 f29 f30 f31 f32 f33 f34 f35 f36 f37 f38 f39 f40 f41 f42 f43 f44 f45 f46 f47 f48 f49 f50 f51 f52 f53 f54 f55 f56 f57 f58 f59 f60 f61 f62 f63 f64 f65 f66 f67 f68 f69 f70 f71 f72 f73 f74 f75 f76 f77 f78 f79 f80 f81 f82 f83 f84 f85 f86 f87 f88 f89 f90 f91 f92 f93 f114 f115 f116 f117 f118 f119 f120 f121 f122 f123 f124 f125 f126 f127 f128 f129 f130 f131 f132 f133 f134 f135 f136 f137 f138 f139 f140 f141 f142 f143 f144 f145 f146 f147 f148 f149 f150 f151 f152 f153 f154 f155 f156 f157 f158 f159 f160 f161 f162 f163 f164 f165 f166 f167 f168 f169 f170 f171 f172 f173 f174 f175 f176 f177 f178 f179 f180 f181 f182 f183 f184 f185 f186 f187 f188 f189 f190 f191 f192 f193 f194 f195 f196 f197 f198 f199 v94 v95 v96 v97 v98 v99 v100 v101 v102 v103 v104 v105 v106 v107 v108 v109 v110 v111 v112 v113 ∧ R15S g P i xs ab off k nn cc x1 x2 y f4 f5 f7 f8 f9 f10 f11 f12 f13 f14 f15 f16 f17 f18 f19 f20 f21 f22 f23 f24 f25 f26 f27 f28 f29 f30 f31 f32 f33 f34 f35 f36 f37 f38 f39 f40 f41 f42 f43 f44 f45 f46 f47 f48 f49 f50 f51 f52 f53 f54 f55 f56 f57 f58 f59 f60 f61 f62 f63 f64 f65 f66 f67 f68 f69 f70 f71 f72 f73 f74 f75 f76 f77 f78 f79 f80 f81 f82 f83 f84 f85 f86 f87 f88 f89 f90 f91 f92 f93 f114 f115 f116 f117 f118 f119 f120 f121 f122 f123 f124 f125 f126 f127 f128 f129 f130 f131 f132 f133 f134 f135 f136 f137 f138 f139 f140 f141 f142 f143 f144 f145 f146 f147 f148 f149 f150 f151 f152 f153 f154 f155 f156 f157 f158 f159 f160 f161 f162 f163 f164 f165 f166 f167 f168 f169 f170 f171 f172 f173 f174 f175 f176 f177 f178 f179 f180 f181 f182 f183 f184 f185 f186 f187 f188 f189 f190 f191 f192 f193 f194 f195 f196 f197 f198 f199 L v94 v95 v96 v97 v98 v99 v100 v101 v102 v103 v104 v105 v106 v107 v108 v109 v110 v111 v112 v113 ∧ TpX w1 i P w
set_option maxRecDepth 100000 in
set_option maxHeartbeats 16000000 in
theorem e12 (w0 w1 : World) (xs : Array Value) (g : Nat) (i : Ix) (P : Nat) (a1 : Option Addr) (n1 c1 : Nat) (z1 : List (Nat × Nat)) (a2 : Option Addr) (n2 c2 : Nat) (z2 : List (Nat × Nat)) (a3 : Option Addr) (n3 c3 : Nat) (z3 : List (Nat × Nat)) (fr : Int) (vid a opn : Nat) (HH : Hid (EgH w0 w1 g a1 n1 c1 z1 a2 n2 c2 z2 a3 n3 c3 z3 fr vid a opn)) (f4 f5 f6 f7 f8 f9 f10 f11 f12 f13 f14 f15 f16 f17 f18 f19 f20 f21 f22 f23 f24 f25 f26 f27 f28 f29 f30 f31 f32 f33 f34 f35 f36 f37 f38 f39 f40 f41 f42 f43 f44 f45 f46 f47 f48 f49 f50 f51 f52 f53 f54 f55 f56 f57 f58 f59 f60 f61 f62 f63 f64 f65 f66 f67 f68 f69 f70 f71 f72 f73 f74 f75 f76 f77 f78 f79 f80 f81 f82 f83 f84 f85 f86 f87 f88 f89 f90 f91 f92 f93 f94 f95 f96 f97 f98 f99 f100 f101 f102 f103 f104 f105 f106 f107 f108 f109 f110 f111 f112 f113 f114 f115 f116 f117 f118 f119 f120 f121 f122 f123 f124 f125 f126 f127 f128 f129 f130 f131 f132 f133 f134 f135 f136 f137 f138 f139 f140 f141 f142 f143 f144 f145 f146 f147 f148 f149 f150 f151 f152 f153 f154 f155 f156 f157 f158 f159 f160 f161 f162 f163 f164 f165 f166 f167 f168 f169 f170 f171 f172 f173 f174 f175 f176 f177 f178 f179 f180 f181 f182 f183 f184 f185 f186 f187 f188 f189 f190 f191 f192 f193 f194 f195 f196 f197 f198 f199 : Value) (wc : World) (KC : TpX w1 i P wc) :
    Code.wp Try.prog (tail5 12) (bodyPost Try.prog Try.f5 fun e w' => e = .returned (.bool true) ∧ Below w0.heap.size w0 w') { tmps := #[.agg xs, .pointer (some ⟨g, 0, none⟩), .bool false, .pointer (some ⟨P, 0, none⟩), f4, f5, f6, f7, f8, f9, f10, f11, f12, f13, f14, f15, f16, f17, f18, f19, f20, f21, f22, f23, f24, f25, f26, f27, f28, f29, f30, f31, f32, f33, f34, f35, f36, f37, f38, f39, f40, f41, f42, f43, f44, f45, f46, f47, f48, f49, f50, f51, f52, f53, f54, f55, f56, f57, f58, f59, f60, f61, f62, f63, f64, f65, f66, f67, f68, f69, f70, f71, f72, f73, f74, f75, f76, f77, f78, f79, f80, f81, f82, f83, f84, f85, f86, f87, f88, f89, f90, f91, f92, f93, f94, f95, f96, f97, f98, f99, f100, f101, f102, f103, f104, f105, f106, f107, f108, f109, f110, f111, f112, f113, f114, f115, f116, f117, f118, f119, f120, f121, f122, f123, f124, f125, f126, f127, f128, f129, f130, f131, f132, f133, f134, f135, f136, f137, f138, f139, f140, f141, f142, f143, f144, f145, f146, f147, f148, f149, f150, f151, f152, f153, f154, f155, f156, f157, f158, f159, f160, f161, f162, f163, f164, f165, f166, f167, f168, f169, f170, f171, f172, f173, f174, f175, f176, f177, f178, f179, f180, f181, f182, f183, f184, f185, f186, f187, f188, f189, f190, f191, f192, f193, f194, f195, f196, f197, f198, f199], defers := [] } wc := by
  have K0 := Lib.hid KC
  clear KC
  conv => arg 2; whnf
  conv => arg 4; zeta
  go_upto_region 13 with fail
  rename_i KX hKX
  have HKX := Lib.hid hKX
  clear hKX
  have hlc : (n3 : Int) ≤ 9223372036854775807 := by have q := HH.out.p3.2.2.2.1; have q1 := q.1; have q2 := q.2; unfold maxLen at *; omega
  go_loopw [6] (fun j wr => ∃ k : Nat, k ≤ n3 ∧ k ≤ 8 ∧ j = .int .i64 k ∧ TpX w1 i P wr) (fun j _ => (8 - intOf j).toNat)
  case atStart => exact ⟨0, by omega, by omega, rfl, K0.out⟩
  case round =>
    obtain ⟨k, hk, hk2, rfl, hI⟩ := hrel
    have HI := Lib.hid hI
    clear hI
    have cq := (HH.out.cells wr HI.out.below).1.2.2.1
    by_cases hlt : k < n3 ∧ k < 8
    · obtain ⟨h1, h2⟩ := hlt
      obtain ⟨ab, off, x1, x2, rfl, b1, b2, hkc, HR⟩ := pairs8_row HH.out.low HH.out.p3 h1
      obtain ⟨hkc, hnc⟩ := hkc
      obtain ⟨y, hy⟩ : ∃ y, y = x1 % 8 := ⟨_, rfl⟩
      have EM : (x1 : Int).tmod 8 = (y : Int) := by rw [hy]; exact tmod_nat x1 8
      have EA := wrapE_u64 (show y < 18446744073709551616 by omega)
      have EC := wrapE_i64 b2
      have EY : y < 281474976710656 := by omega
      clear hy
      go_upto_region 15 with fail
      refine wp_region_inv (I := R15I g P i xs ab off k n3 c3 x1 x2 y _ _ _ _ _ _ _ _ _ _ _ _ _ _ _ _ _ _ _ _ _ _ _ _ _ _ _ _ _ _ _ _ _ _ _ _ _ _ _ _ _ _ _ _ _ _ _ _ _ _ _ _ _ _ _ _ _ _ _ _ _ _ _ _ _ _ _ _ _ _ _ _ _ _ _ _ _ _ _ _ _ _ _ _ _ _ _ _ _ _ _ _ _ _ _ _ _ _ _ _ _ _ _ _ _ _ _ _ _ _ _ _ _ _ _ _ _ _ _ _ _ _ _ _ _ _ _ _ _ _ _ _ _ _ _ _ _ _ _ _ _ _ _ _ _ _ _ _ _ _ _ _ _ _ _ _ _ _ _ _ _ _ _ _ _ _ _ _ _ _ _ _ _ _ _ w1) (by kernel_rfl) (by kernel_rfl) ⟨_, _, _, _, _, _, _, _, _, _, _, _, _, _, _, _, _, _, _, _, rfl, ⟨(fun h => Bool.noConfusion h), (fun h => Bool.noConfusion h), (fun h => Bool.noConfusion h), (fun h => Bool.noConfusion h), (fun h => Bool.noConfusion h), (fun h => Bool.noConfusion h), (fun h => Bool.noConfusion h), (fun h => Bool.noConfusion h), (fun h => Bool.noConfusion h), (fun h => Bool.noConfusion h), (fun h => Bool.noConfusion h), (fun h => Bool.noConfusion h), (fun h => Bool.noConfusion h), (fun h => Bool.noConfusion h), (fun h => Bool.noConfusion h), (fun h => Bool.noConfusion h), (fun h => Bool.noConfusion h), (fun h => Bool.noConfusion h), (fun h => Bool.noConfusion h)⟩, HI.out.next (Below.refl _ _).drew⟩ ?_ ?_
      · intro o ho Lx ac w' hI hL haft
        obtain ⟨v94, v95, v96, v97, v98, v99, v100, v101, v102, v103, v104, v105, v106, v107, v108, v109, v110, v111, v112, v113, rfl, hs, hw⟩ := hI
        match o, ho with
        | 0, _ =>
          exact i_val rfl (.pointer (some ⟨P, 2, none⟩)) w' (by rfl) (by go_simp) ⟨(.pointer (some ⟨P, 2, none⟩)), v95, v96, v97, v98, v99, v100, v101, v102, v103, v104, v105, v106, v107, v108, v109, v110, v111, v112, v113, rfl, { hs with e94 := fun _ => rfl }, hw⟩
        | 1, _ =>
          have e94x := hs.e94 (haft 0 (by decide))
          subst e94x
          have q := hw.cells.2.2
          exact i_val rfl (.pointer (some ⟨i.b3, 0, none⟩)) w' (by rfl) (by go_simp) ⟨(.pointer (some ⟨P, 2, none⟩)), (.pointer (some ⟨i.b3, 0, none⟩)), v96, v97, v98, v99, v100, v101, v102, v103, v104, v105, v106, v107, v108, v109, v110, v111, v112, v113, rfl, { hs with e95 := fun _ => rfl }, hw⟩
        | 2, _ =>
          exact i_val rfl (.pointer (some ⟨g, 2, none⟩)) w' (by rfl) (by go_simp) ⟨v94, v95, (.pointer (some ⟨g, 2, none⟩)), v97, v98, v99, v100, v101, v102, v103, v104, v105, v106, v107, v108, v109, v110, v111, v112, v113, rfl, { hs with e96 := fun _ => rfl }, hw⟩
        | 3, _ =>
          have e96x := hs.e96 (haft 2 (by decide))
          subst e96x
          have q := (HH.out.cells w' hw.below).1.2.2.1
          exact i_val rfl (.slice (some ⟨ab, off, none⟩) n3 c3) w' (by rfl) (by go_simp) ⟨v94, v95, (.pointer (some ⟨g, 2, none⟩)), (.slice (some ⟨ab, off, none⟩) n3 c3), v98, v99, v100, v101, v102, v103, v104, v105, v106, v107, v108, v109, v110, v111, v112, v113, rfl, { hs with e97 := fun _ => rfl }, hw⟩
        | 4, _ =>
          exact i_val rfl (.int .i64 (k : Nat)) w' (by rfl) (by go_simp) ⟨v94, v95, v96, v97, (.int .i64 (k : Nat)), v99, v100, v101, v102, v103, v104, v105, v106, v107, v108, v109, v110, v111, v112, v113, rfl, { hs with e98 := fun _ => rfl }, hw⟩
        | 5, _ =>
          have e97x := hs.e97 (haft 3 (by decide))
          subst e97x
          have e98x := hs.e98 (haft 4 (by decide))
          subst e98x
          exact i_val rfl (.pointer (some ⟨ab, off + k * 2, none⟩)) w' (by rfl) (by go_simp) ⟨v94, v95, v96, (.slice (some ⟨ab, off, none⟩) n3 c3), (.int .i64 (k : Nat)), (.pointer (some ⟨ab, off + k * 2, none⟩)), v100, v101, v102, v103, v104, v105, v106, v107, v108, v109, v110, v111, v112, v113, rfl, { hs with e99 := fun _ => rfl }, hw⟩
        | 6, _ =>
          have e99x := hs.e99 (haft 5 (by decide))
          subst e99x
          exact i_val rfl (.pointer (some ⟨ab, off + k * 2, none⟩)) w' (by rfl) (by go_simp) ⟨v94, v95, v96, v97, v98, (.pointer (some ⟨ab, off + k * 2, none⟩)), (.pointer (some ⟨ab, off + k * 2, none⟩)), v101, v102, v103, v104, v105, v106, v107, v108, v109, v110, v111, v112, v113, rfl, { hs with e100 := fun _ => rfl }, hw⟩
        | 7, _ =>
          have e100x := hs.e100 (haft 6 (by decide))
          subst e100x
          have q := (HR w' hw.below).1
          exact i_val rfl (.int .u8 (x1 : Nat)) w' (by rfl) (by go_simp) ⟨v94, v95, v96, v97, v98, v99, (.pointer (some ⟨ab, off + k * 2, none⟩)), (.int .u8 (x1 : Nat)), v102, v103, v104, v105, v106, v107, v108, v109, v110, v111, v112, v113, rfl, { hs with e101 := fun _ => rfl }, hw⟩
        | 8, _ =>
          have e101x := hs.e101 (haft 7 (by decide))
          subst e101x
          exact i_val rfl (.int .u8 (y : Nat)) w' (by rfl) (by go_simp; first | done | exact EM) ⟨v94, v95, v96, v97, v98, v99, v100, (.int .u8 (x1 : Nat)), (.int .u8 (y : Nat)), v103, v104, v105, v106, v107, v108, v109, v110, v111, v112, v113, rfl, { hs with e102 := fun _ => rfl }, hw⟩
        | 9, _ =>
          have e102x := hs.e102 (haft 8 (by decide))
          subst e102x
          exact i_val rfl (.int .u64 (y : Nat)) w' (by rfl) (by go_simp; first | done | exact EA) ⟨v94, v95, v96, v97, v98, v99, v100, v101, (.int .u8 (y : Nat)), (.int .u64 (y : Nat)), v104, v105, v106, v107, v108, v109, v110, v111, v112, v113, rfl, { hs with e103 := fun _ => rfl }, hw⟩
        | 10, _ =>
          have e103x := hs.e103 (haft 9 (by decide))
          subst e103x
          exact i_call rfl (mac (byteF y)) 18 #[.int .u64 (y : Nat)] (fun w2 => Below w'.heap.size w' w2) (by rfl) (by go_simp) (fromInt_any y w') fun w2 hb => ⟨v94, v95, v96, v97, v98, v99, v100, v101, v102, (.int .u64 (y : Nat)), (mac (byteF y)), v105, v106, v107, v108, v109, v110, v111, v112, v113, rfl, { hs with e104 := fun _ => rfl }, hw.next hb⟩
        | 11, _ =>
          have e104x := hs.e104 (haft 10 (by decide))
          subst e104x
          exact i_val rfl (kyV 1 y) w' (by rfl) (by go_simp) ⟨v94, v95, v96, v97, v98, v99, v100, v101, v102, v103, (mac (byteF y)), (kyV 1 y), v106, v107, v108, v109, v110, v111, v112, v113, rfl, { hs with e105 := fun _ => rfl }, hw⟩
        | 12, _ =>
          exact i_val rfl (.pointer (some ⟨g, 2, none⟩)) w' (by rfl) (by go_simp) ⟨v94, v95, v96, v97, v98, v99, v100, v101, v102, v103, v104, v105, (.pointer (some ⟨g, 2, none⟩)), v107, v108, v109, v110, v111, v112, v113, rfl, { hs with e106 := fun _ => rfl }, hw⟩
        | 13, _ =>
          have e106x := hs.e106 (haft 12 (by decide))
          subst e106x
          have q := (HH.out.cells w' hw.below).1.2.2.1
          exact i_val rfl (.slice (some ⟨ab, off, none⟩) n3 c3) w' (by rfl) (by go_simp) ⟨v94, v95, v96, v97, v98, v99, v100, v101, v102, v103, v104, v105, (.pointer (some ⟨g, 2, none⟩)), (.slice (some ⟨ab, off, none⟩) n3 c3), v108, v109, v110, v111, v112, v113, rfl, { hs with e107 := fun _ => rfl }, hw⟩
        | 14, _ =>
          exact i_val rfl (.int .i64 (k : Nat)) w' (by rfl) (by go_simp) ⟨v94, v95, v96, v97, v98, v99, v100, v101, v102, v103, v104, v105, v106, v107, (.int .i64 (k : Nat)), v109, v110, v111, v112, v113, rfl, { hs with e108 := fun _ => rfl }, hw⟩
        | 15, _ =>
          have e107x := hs.e107 (haft 13 (by decide))
          subst e107x
          have e108x := hs.e108 (haft 14 (by decide))
          subst e108x
          exact i_val rfl (.pointer (some ⟨ab, off + k * 2, none⟩)) w' (by rfl) (by go_simp) ⟨v94, v95, v96, v97, v98, v99, v100, v101, v102, v103, v104, v105, v106, (.slice (some ⟨ab, off, none⟩) n3 c3), (.int .i64 (k : Nat)), (.pointer (some ⟨ab, off + k * 2, none⟩)), v110, v111, v112, v113, rfl, { hs with e109 := fun _ => rfl }, hw⟩
        | 16, _ =>
          have e109x := hs.e109 (haft 15 (by decide))
          subst e109x
          exact i_val rfl (.pointer (some ⟨ab, off + k * 2 + 1, none⟩)) w' (by rfl) (by go_simp) ⟨v94, v95, v96, v97, v98, v99, v100, v101, v102, v103, v104, v105, v106, v107, v108, (.pointer (some ⟨ab, off + k * 2, none⟩)), (.pointer (some ⟨ab, off + k * 2 + 1, none⟩)), v111, v112, v113, rfl, { hs with e110 := fun _ => rfl }, hw⟩
        | 17, _ =>
          have e110x := hs.e110 (haft 16 (by decide))
          subst e110x
          have q := (HR w' hw.below).2
          exact i_val rfl (.int .u8 (x2 : Nat)) w' (by rfl) (by go_simp) ⟨v94, v95, v96, v97, v98, v99, v100, v101, v102, v103, v104, v105, v106, v107, v108, v109, (.pointer (some ⟨ab, off + k * 2 + 1, none⟩)), (.int .u8 (x2 : Nat)), v112, v113, rfl, { hs with e111 := fun _ => rfl }, hw⟩
        | 18, _ =>
          have e111x := hs.e111 (haft 17 (by decide))
          subst e111x
          exact i_val rfl (.int .i64 (x2 : Nat)) w' (by rfl) (by go_simp; first | done | exact EC) ⟨v94, v95, v96, v97, v98, v99, v100, v101, v102, v103, v104, v105, v106, v107, v108, v109, v110, (.int .u8 (x2 : Nat)), (.int .i64 (x2 : Nat)), v113, rfl, { hs with e112 := fun _ => rfl }, hw⟩
        | 19, _ =>
          have e95x := hs.e95 (haft 1 (by decide))
          subst e95x
          have e105x := hs.e105 (haft 11 (by decide))
          subst e105x
          have e112x := hs.e112 (haft 18 (by decide))
          subst e112x
          refine i_callx rfl 19 #[.pointer (some ⟨i.b3, 0, none⟩), kyV 1 y, .int .i64 (x2 : Nat)] (fun v w2 => TpX w1 i P w2) (by rfl) (by go_simp) (hw.learn 1 y x2 EY) ?_
          intro v w2 h2
          exact ⟨v94, (.pointer (some ⟨i.b3, 0, none⟩)), v96, v97, v98, v99, v100, v101, v102, v103, v104, (kyV 1 y), v106, v107, v108, v109, v110, v111, (.int .i64 (x2 : Nat)), v, rfl, { hs with }, h2⟩
        | k + 20, h =>
          exfalso
          have h2 : k + 20 < 20 := h
          omega
      intro Lx ac w3 hI hall
      obtain ⟨v94, v95, v96, v97, v98, v99, v100, v101, v102, v103, v104, v105, v106, v107, v108, v109, v110, v111, v112, v113, rfl, hs, hw⟩ := hI
      have K5 := Lib.hid hw
      clear hw hs hall HR cq
      go_wp2_with fail
      go_roundw
      case rel => exact ⟨k + 1, by omega, by omega, by go_num, K5.out⟩
      case measure => simp [intOf]; omega
    · have HE := Lib.hid (show ¬ (k : Int) < (n3 : Int) ∨ ((k : Int) < (n3 : Int) ∧ ¬ (k : Int) < 8) by omega)
      clear hlt hk hk2
      rcases HE.out with g1 | ⟨g1, g2⟩
      all_goals
        go_wp2_with fail
        exact HKX.out _ _ (e16 w0 w1 xs g i P a1 n1 c1 z1 a2 n2 c2 z2 a3 n3 c3 z3 fr vid a opn HH _ _ _ _ _ _ _ _ _ _ _ _ _ _ _ _ _ _ _ _ _ _ _ _ _ _ _ _ _ _ _ _ _ _ _ _ _ _ _ _ _ _ _ _ _ _ _ _ _ _ _ _ _ _ _ _ _ _ _ _ _ _ _ _ _ _ _ _ _ _ _ _ _ _ _ _ _ _ _ _ _ _ _ _ _ _ _ _ _ _ _ _ _ _ _ _ _ _ _ _ _ _ _ _ _ _ _ _ _ _ _ _ _ _ _ _ _ _ _ _ _ _ _ _ _ _ _ _ _ _ _ _ _ _ _ _ _ _ _ _ _ _ _ _ _ _ _ _ _ _ _ _ _ _ _ _ _ _ _ _ _ _ _ _ _ _ _ _ _ _ _ _ _ _ _ _ _ _ _ _ _ _ _ _ _ _ _ _ _ _ _ _ _ _ _ _ wr HI.out)

end Go.Proofs.Ytpjfpcebjneblaa
end
section
namespace Go.Proofs.Ytpjfpcebjneblaa
open Go.RowKit
attribute [local irreducible] wpQuiet
set_option linter.unusedSimpArgs false
set_option linter.unusedVariables false

/-- The slots, while the region runs. -/
structure R11S (g P : Nat) (i : Ix) (xs : Array Value) (ab off k nn cc x1 x2 y : Nat) (f4 f6 f7 f8 f9 f10 f11 f12 f13 f14 f15 f16 f17 f18 f19 f20 f21 f22 f23 f24 f25 f26 f27 f28 f29 f30 f31 f32 f33 f34 f35 f36 f37 f38 f39 f40 f41 f42 f43 f44 f45 f46 f47 f48 f49 f50 f51 f52 f53 f54 f55 f56 f57 f58 f59 f60 f61 f83 f84 f85 f86 f87 f88 f89 f90 f91 f92 f93 f94 f95 f96 f97 f98 f99 f100 f101 f102 f103 f104 f105 f106 f107 f108 f109 f110 f111 f112 f113 f114 f115 f116 f117 f118 f119 f120 f121 f122 f123 f124 f125 f126 f127 f128 f129 f130 f131 f132 f133 f134 f135 f136 f137 f138 f139 f140 f141 f142 f143 f144 f145 f146 f147 f148 f149 f150 f151 f152 f153 f154 f155 f156 f157 f158 f159 f160 f161 f162 f163 f164 f165 f166 f167 f168 f169 f170 f171 f172 f173 f174 f175 f176 f177 f178 f179 f180 f181 f182 f183 f184 f185 f186 f187 f188 f189 f190 f191 f192 f193 f194 f195 f196 f197 f198 f199 : Value) (L : Nat → Bool) (v62 v63 v64 v65 v66 v67 v68 v69 v70 v71 v72 v73 v74 v75 v76 v77 v78 v79 v80 v81 v82 : Value) : Prop where
  e62 : L 0 = true → v62 = .pointer (some ⟨P, 1, none⟩)
  e63 : L 1 = true → v63 = .pointer (some ⟨i.b2, 0, none⟩)
  e64 : L 2 = true → v64 = .pointer (some ⟨g, 1, none⟩)
  e65 : L 3 = true → v65 = .slice (some ⟨ab, off, none⟩) nn cc
  e66 : L 4 = true → v66 = .int .i64 (k : Nat)
  e67 : L 5 = true → v67 = .pointer (some ⟨ab, off + k * 2, none⟩)
  e68 : L 6 = true → v68 = .pointer (some ⟨ab, off + k * 2, none⟩)
  e69 : L 7 = true → v69 = .int .u16 (x1 : Nat)
  e70 : L 8 = true → v70 = .int .u16 (y : Nat)
  e71 : L 9 = true → v71 = .int .u64 (y : Nat)
  e72 : L 10 = true → v72 = mac (byteF y)
  e73 : L 11 = true → v73 = kyV 1 y
  e74 : L 12 = true → v74 = .pointer (some ⟨g, 1, none⟩)
  e75 : L 13 = true → v75 = .slice (some ⟨ab, off, none⟩) nn cc
  e76 : L 14 = true → v76 = .int .i64 (k : Nat)
  e77 : L 15 = true → v77 = .pointer (some ⟨ab, off + k * 2, none⟩)
  e78 : L 16 = true → v78 = .pointer (some ⟨ab, off + k * 2 + 1, none⟩)
  e79 : L 17 = true → v79 = .int .u16 (x2 : Nat)
  e80 : L 18 = true → v80 = .int .u32 (x2 : Nat)
  e81 : L 19 = true → v81 = seV ⟨1, y, x2⟩
abbrev R11F (g P : Nat) (i : Ix) (xs : Array Value) (ab off k nn cc x1 x2 y : Nat) (f4 f6 f7 f8 f9 f10 f11 f12 f13 f14 f15 f16 f17 f18 f19 f20 f21 f22 f23 f24 f25 f26 f27 f28 f29 f30 f31 f32 f33 f34 f35 f36 f37 f38 f39 f40 f41 f42 f43 f44 f45 f46 f47 f48 f49 f50 f51 f52 f53 f54 f55 f56 f57 f58 f59 f60 f61 f83 f84 f85 f86 f87 f88 f89 f90 f91 f92 f93 f94 f95 f96 f97 f98 f99 f100 f101 f102 f103 f104 f105 f106 f107 f108 f109 f110 f111 f112 f113 f114 f115 f116 f117 f118 f119 f120 f121 f122 f123 f124 f125 f126 f127 f128 f129 f130 f131 f132 f133 f134 f135 f136 f137 f138 f139 f140 f141 f142 f143 f144 f145 f146 f147 f148 f149 f150 f151 f152 f153 f154 f155 f156 f157 f158 f159 f160 f161 f162 f163 f164 f165 f166 f167 f168 f169 f170 f171 f172 f173 f174 f175 f176 f177 f178 f179 f180 f181 f182 f183 f184 f185 f186 f187 f188 f189 f190 f191 f192 f193 f194 f195 f196 f197 f198 f199 : Value) (v62 v63 v64 v65 v66 v67 v68 v69 v70 v71 v72 v73 v74 v75 v76 v77 v78 v79 v80 v81 v82 : Value) : Act := { tmps := #[.agg xs, .pointer (some ⟨g, 0, none⟩), .bool false, .pointer (some ⟨P, 0, none⟩), f4, .int .i64 (k : Nat), f6, f7, f8, f9, f10, f11, f12, f13, f14, f15, f16, f17, f18, f19, f20, f21, f22, f23, f24, f25, f26, f27, f28, f29, f30, f31, f32, f33, f34, f35, f36, f37, f38, f39, f40, f41, f42, f43, f44, f45, f46, f47, f48, f49, f50, f51, f52, f53, f54, f55, f56, f57, f58, f59, f60, f61, v62, v63, v64, v65, v66, v67, v68, v69, v70, v71, v72, v73, v74, v75, v76, v77, v78, v79, v80, v81, v82, f83, f84, f85, f86, f87, f88, f89, f90, f91, f92, f93, f94, f95, f96, f97, f98, f99, f100, f101, f102, f103, f104, f105, f106, f107, f108, f109, f110, f111, f112, f113, f114, f115, f116, f117, f118, f119, f120, f121, f122, f123, f124, f125, f126, f127, f128, f129, f130, f131, f132, f133, f134, f135, f136, f137, f138, f139, f140, f141, f142, f143, f144, f145, f146, f147, f148, f149, f150, f151, f152, f153, f154, f155, f156, f157, f158, f159, f160, f161, f162, f163, f164, f165, f166, f167, f168, f169, f170, f171, f172, f173, f174, f175, f176, f177, f178, f179, f180, f181, f182, f183, f184, f185, f186, f187, f188, f189, f190, f191, f192, f193, f194, f195, f196, f197, f198, f199], defers := [] }
def R11I (g P : Nat) (i : Ix) (xs : Array Value) (ab off k nn cc x1 x2 y : Nat) (f4 f6 f7 f8 f9 f10 f11 f12 f13 f14 f15 f16 f17 f18 f19 f20 f21 f22 f23 f24 f25 f26 f27 f28 f29 f30 f31 f32 f33 f34 f35 f36 f37 f38 f39 f40 f41 f42 f43 f44 f45 f46 f47 f48 f49 f50 f51 f52 f53 f54 f55 f56 f57 f58 f59 f60 f61 f83 f84 f85 f86 f87 f88 f89 f90 f91 f92 f93 f94 f95 f96 f97 f98 f99 f100 f101 f102 f103 f104 f105 f106 f107 f108 f109 f110 f111 f112 f113 f114 f115 f116 f117 f118 f119 f120 f121 f122 f123 f124 f125 f126 f127 f128 f129 f130 f131 f132 f133 f134 f135 f136 f137 f138 f139 f140 f141 f142 f143 f144 f145 f146 f147 f148 f149 f150 f151 f152 f153 f154 f155 f156 f157 f158 f159 f160 f161 f162 f163 f164 f165 f166 f167 f168 f169 f170 f171 f172 f173 f174 f175 f176 f177 f178 f179 f180 f181 f182 f183 f184 f185 f186 f187 f188 f189 f190 f191 f192 f193 f194 f195 f196 f197 f198 f199 : Value) (w1 : World) (L : Nat → Bool) (ac : Act) (w : World) : Prop :=
  ∃ v62 v63 v64 v65 v66 v67 v68 v69 v70 v71 v72 v73 v74 v75 v76 v77 v78 v79 v80 v81 v82, ac = R11F g P i xs ab off k nn cc x1 x2 y f4 f6 f7 f8 f9 f10 f11 f12 f13 f14 f15 f16 f17 f18 f19 f20 f21 f22 f23 f24 f25 f26 f27 f28 f29 f30 f31 f32 f33 f34 f35 f36 f37 f38 f39 f40 f41 f42 f43 f44 f45 f46 f47 f48 f49 f50 f51 f52 f53 f54 f55 f56 f57 f58 f59 f60 f61 f83 f84 f85 f86 f87 f88 f89 f90 f91 f92 f93 f94 f95 f96 f97 f98 f99 f100 f101 f102 f103 f104 f105 f106 f107 f108 f109 f110 f111 f112 f113 f114 f115 f116 f117 f118 f119 f120 f121 f122 f123 f124 f125 f126 f127 f128 f129 f130 f131 f132 f133 f134 f135 f136 f137 f138 f139 f140 f141 f142 f143 f144 f145 f146 f147 f148 f149 f150 f151 f152 f153 f154 f155 f156 f157 f158 f159 f160 f161 f162 f163 f164 f165 f166 f167 f168 f169 f170 f171 f172 f173 f174 f175 f176 f177 f178 f179 f180 f181 f182 f183 f184 f185 f186 f187 f188 f189 f190 f191 f192 f193 f194 f195 f196 f197 f198 f199 v62 v63 v64 v65 v66 v67 v68 v69 v70 v71 v72 v73 v74 v75 v76 v77 v78 v79 v80 v81 v82 ∧ R11S g P i xs ab off k nn cc x1 x2 y f4 f6 f7 f8 f9 f10 f11 f12 f13 f14 f15 f16 f17 f18 f19 f20 f21 f22 f23 f24 f25 f26 f27 f28 f29 f30 f31 f32 f33 f34 f35 f36 f37 f38 f39 f40 f41 f42 f43 f44 f45 f46 f47 f48 f49 f50 f51 f52 f53 f54 f55 f56 f57 f58 f59 f60 f61 f83 f84 f85 f86 f87 f88 f89 f90 f91 f92 f93 f94 f95 f96 f97 f98 f99 f100 f101 f102 f103 f104 f105 f106 f107 f108 f109 f110 f111 f112 f113 f114 f115 f116 f117 f118 f119 f120 f121 f122 f123 f124 f125 f126 f127 f128 f129 f130 f131 f132 f133 f134 f135 f136 f137 f138 f139 f140 f141 f142 f143 f144 f145 f146 f147 f148 f149 f150 f151 f152 f153 f154 f155 f156 f157 f158 f159 f160 f161 f162 f163 f164 f165 f166 f167 f168 f169 f170 f171 f172 f173 f174 f175 f176 f177 f178 f179 f180 f181 f182 f183 f184 f185 f186 f187 f188 f189 f190 f191 f192 f193 f194 f195 f196 f197 f198 f199 L v62 v63 v64 v65 v66 v67 v68 v69 v70 v71 v72 v73 v74 v75 v76 v77 v78 v79 v80 v81 v82 ∧ TpX w1 i P w
set_option maxRecDepth 100000 in
set_option maxHeartbeats 16000000 in
theorem e8 (w0 w1 : World) (xs : Array Value) (g : Nat) (i : Ix) (P : Nat) (a1 : Option Addr) (n1 c1 : Nat) (z1 : List (Nat × Nat)) (a2 : Option Addr) (n2 c2 : Nat) (z2 : List (Nat × Nat)) (a3 : Option Addr) (n3 c3 : Nat) (z3 : List (Nat × Nat)) (fr : Int) (vid a opn : Nat) (HH : Hid (EgH w0 w1 g a1 n1 c1 z1 a2 n2 c2 z2 a3 n3 c3 z3 fr vid a opn)) (f4 f5 f6 f7 f8 f9 f10 f11 f12 f13 f14 f15 f16 f17 f18 f19 f20 f21 f22 f23 f24 f25 f26 f27 f28 f29 f30 f31 f32 f33 f34 f35 f36 f37 f38 f39 f40 f41 f42 f43 f44 f45 f46 f47 f48 f49 f50 f51 f52 f53 f54 f55 f56 f57 f58 f59 f60 f61 f62 f63 f64 f65 f66 f67 f68 f69 f70 f71 f72 f73 f74 f75 f76 f77 f78 f79 f80 f81 f82 f83 f84 f85 f86 f87 f88 f89 f90 f91 f92 f93 f94 f95 f96 f97 f98 f99 f100 f101 f102 f103 f104 f105 f106 f107 f108 f109 f110 f111 f112 f113 f114 f115 f116 f117 f118 f119 f120 f121 f122 f123 f124 f125 f126 f127 f128 f129 f130 f131 f132 f133 f134 f135 f136 f137 f138 f139 f140 f141 f142 f143 f144 f145 f146 f147 f148 f149 f150 f151 f152 f153 f154 f155 f156 f157 f158 f159 f160 f161 f162 f163 f164 f165 f166 f167 f168 f169 f170 f171 f172 f173 f174 f175 f176 f177 f178 f179 f180 f181 f182 f183 f184 f185 f186 f187 f188 f189 f190 f191 f192 f193 f194 f195 f196 f197 f198 f199 : Value) (wc : World) (KC : TpX w1 i P wc) :
    Code.wp Try.prog (tail5 8) (bodyPost Try.prog Try.f5 fun e w' => e = .returned (.bool true) ∧ Below w0.heap.size w0 w') { tmps := #[.agg xs, .pointer (some ⟨g, 0, none⟩), .bool false, .pointer (some ⟨P, 0, none⟩), f4, f5, f6, f7, f8, f9, f10, f11, f12, f13, f14, f15, f16, f17, f18, f19, f20, f21, f22, f23, f24, f25, f26, f27, f28, f29, f30, f31, f32, f33, f34, f35, f36, f37, f38, f39, f40, f41, f42, f43, f44, f45, f46, f47, f48, f49, f50, f51, f52, f53, f54, f55, f56, f57, f58, f59, f60, f61, f62, f63, f64, f65, f66, f67, f68, f69, f70, f71, f72, f73, f74, f75, f76, f77, f78, f79, f80, f81, f82, f83, f84, f85, f86, f87, f88, f89, f90, f91, f92, f93, f94, f95, f96, f97, f98, f99, f100, f101, f102, f103, f104, f105, f106, f107, f108, f109, f110, f111, f112, f113, f114, f115, f116, f117, f118, f119, f120, f121, f122, f123, f124, f125, f126, f127, f128, f129, f130, f131, f132, f133, f134, f135, f136, f137, f138, f139, f140, f141, f142, f143, f144, f145, f146, f147, f148, f149, f150, f151, f152, f153, f154, f155, f156, f157, f158, f159, f160, f161, f162, f163, f164, f165, f166, f167, f168, f169, f170, f171, f172, f173, f174, f175, f176, f177, f178, f179, f180, f181, f182, f183, f184, f185, f186, f187, f188, f189, f190, f191, f192, f193, f194, f195, f196, f197, f198, f199], defers := [] } wc := by
  have K0 := Lib.hid KC
  clear KC
  conv => arg 2; whnf
  conv => arg 4; zeta
  go_upto_region 9 with fail
  rename_i KX hKX
  have HKX := Lib.hid hKX
  clear hKX
  have hlc : (n2 : Int) ≤ 9223372036854775807 := by have q := HH.out.p2.2.2.2.1; have q1 := q.1; have q2 := q.2; unfold maxLen at *; omega
  go_loopw [5] (fun j wr => ∃ k : Nat, k ≤ n2 ∧ k ≤ 8 ∧ j = .int .i64 k ∧ TpX w1 i P wr) (fun j _ => (8 - intOf j).toNat)
  case atStart => exact ⟨0, by omega, by omega, rfl, K0.out⟩
  case round =>
    obtain ⟨k, hk, hk2, rfl, hI⟩ := hrel
    have HI := Lib.hid hI
    clear hI
    have cq := (HH.out.cells wr HI.out.below).1.2.1
    by_cases hlt : k < n2 ∧ k < 8
    · obtain ⟨h1, h2⟩ := hlt
      obtain ⟨ab, off, x1, x2, rfl, b1, b2, hkc, HR⟩ := pairs_row HH.out.low HH.out.p2 h1
      obtain ⟨hkc, hnc⟩ := hkc
      obtain ⟨y, hy⟩ : ∃ y, y = x1 % 8 := ⟨_, rfl⟩
      have EM : (x1 : Int).tmod 8 = (y : Int) := by rw [hy]; exact tmod_nat x1 8
      have EA := wrapE_u64 (show y < 18446744073709551616 by omega)
      have EC := wrapE_u32 (show x2 < 4294967296 by omega)
      have EY : seOk ⟨1, y, x2⟩ := by unfold seOk; simp only; omega
      clear hy
      go_upto_region 11 with fail
      refine wp_region_inv (I := R11I g P i xs ab off k n2 c2 x1 x2 y _ _ _ _ _ _ _ _ _ _ _ _ _ _ _ _ _ _ _ _ _ _ _ _ _ _ _ _ _ _ _ _ _ _ _ _ _ _ _ _ _ _ _ _ _ _ _ _ _ _ _ _ _ _ _ _ _ _ _ _ _ _ _ _ _ _ _ _ _ _ _ _ _ _ _ _ _ _ _ _ _ _ _ _ _ _ _ _ _ _ _ _ _ _ _ _ _ _ _ _ _ _ _ _ _ _ _ _ _ _ _ _ _ _ _ _ _ _ _ _ _ _ _ _ _ _ _ _ _ _ _ _ _ _ _ _ _ _ _ _ _ _ _ _ _ _ _ _ _ _ _ _ _ _ _ _ _ _ _ _ _ _ _ _ _ _ _ _ _ _ _ _ _ _ w1) (by kernel_rfl) (by kernel_rfl) ⟨_, _, _, _, _, _, _, _, _, _, _, _, _, _, _, _, _, _, _, _, _, rfl, ⟨(fun h => Bool.noConfusion h), (fun h => Bool.noConfusion h), (fun h => Bool.noConfusion h), (fun h => Bool.noConfusion h), (fun h => Bool.noConfusion h), (fun h => Bool.noConfusion h), (fun h => Bool.noConfusion h), (fun h => Bool.noConfusion h), (fun h => Bool.noConfusion h), (fun h => Bool.noConfusion h), (fun h => Bool.noConfusion h), (fun h => Bool.noConfusion h), (fun h => Bool.noConfusion h), (fun h => Bool.noConfusion h), (fun h => Bool.noConfusion h), (fun h => Bool.noConfusion h), (fun h => Bool.noConfusion h), (fun h => Bool.noConfusion h), (fun h => Bool.noConfusion h), (fun h => Bool.noConfusion h)⟩, HI.out.next (Below.refl _ _).drew⟩ ?_ ?_
      · intro o ho Lx ac w' hI hL haft
        obtain ⟨v62, v63, v64, v65, v66, v67, v68, v69, v70, v71, v72, v73, v74, v75, v76, v77, v78, v79, v80, v81, v82, rfl, hs, hw⟩ := hI
        match o, ho with
        | 0, _ =>
          exact i_val rfl (.pointer (some ⟨P, 1, none⟩)) w' (by rfl) (by go_simp) ⟨(.pointer (some ⟨P, 1, none⟩)), v63, v64, v65, v66, v67, v68, v69, v70, v71, v72, v73, v74, v75, v76, v77, v78, v79, v80, v81, v82, rfl, { hs with e62 := fun _ => rfl }, hw⟩
        | 1, _ =>
          have e62x := hs.e62 (haft 0 (by decide))
          subst e62x
          have q := hw.cells.2.1
          exact i_val rfl (.pointer (some ⟨i.b2, 0, none⟩)) w' (by rfl) (by go_simp) ⟨(.pointer (some ⟨P, 1, none⟩)), (.pointer (some ⟨i.b2, 0, none⟩)), v64, v65, v66, v67, v68, v69, v70, v71, v72, v73, v74, v75, v76, v77, v78, v79, v80, v81, v82, rfl, { hs with e63 := fun _ => rfl }, hw⟩
        | 2, _ =>
          exact i_val rfl (.pointer (some ⟨g, 1, none⟩)) w' (by rfl) (by go_simp) ⟨v62, v63, (.pointer (some ⟨g, 1, none⟩)), v65, v66, v67, v68, v69, v70, v71, v72, v73, v74, v75, v76, v77, v78, v79, v80, v81, v82, rfl, { hs with e64 := fun _ => rfl }, hw⟩
        | 3, _ =>
          have e64x := hs.e64 (haft 2 (by decide))
          subst e64x
          have q := (HH.out.cells w' hw.below).1.2.1
          exact i_val rfl (.slice (some ⟨ab, off, none⟩) n2 c2) w' (by rfl) (by go_simp) ⟨v62, v63, (.pointer (some ⟨g, 1, none⟩)), (.slice (some ⟨ab, off, none⟩) n2 c2), v66, v67, v68, v69, v70, v71, v72, v73, v74, v75, v76, v77, v78, v79, v80, v81, v82, rfl, { hs with e65 := fun _ => rfl }, hw⟩
        | 4, _ =>
          exact i_val rfl (.int .i64 (k : Nat)) w' (by rfl) (by go_simp) ⟨v62, v63, v64, v65, (.int .i64 (k : Nat)), v67, v68, v69, v70, v71, v72, v73, v74, v75, v76, v77, v78, v79, v80, v81, v82, rfl, { hs with e66 := fun _ => rfl }, hw⟩
        | 5, _ =>
          have e65x := hs.e65 (haft 3 (by decide))
          subst e65x
          have e66x := hs.e66 (haft 4 (by decide))
          subst e66x
          exact i_val rfl (.pointer (some ⟨ab, off + k * 2, none⟩)) w' (by rfl) (by go_simp) ⟨v62, v63, v64, (.slice (some ⟨ab, off, none⟩) n2 c2), (.int .i64 (k : Nat)), (.pointer (some ⟨ab, off + k * 2, none⟩)), v68, v69, v70, v71, v72, v73, v74, v75, v76, v77, v78, v79, v80, v81, v82, rfl, { hs with e67 := fun _ => rfl }, hw⟩
        | 6, _ =>
          have e67x := hs.e67 (haft 5 (by decide))
          subst e67x
          exact i_val rfl (.pointer (some ⟨ab, off + k * 2, none⟩)) w' (by rfl) (by go_simp) ⟨v62, v63, v64, v65, v66, (.pointer (some ⟨ab, off + k * 2, none⟩)), (.pointer (some ⟨ab, off + k * 2, none⟩)), v69, v70, v71, v72, v73, v74, v75, v76, v77, v78, v79, v80, v81, v82, rfl, { hs with e68 := fun _ => rfl }, hw⟩
        | 7, _ =>
          have e68x := hs.e68 (haft 6 (by decide))
          subst e68x
          have q := (HR w' hw.below).1
          exact i_val rfl (.int .u16 (x1 : Nat)) w' (by rfl) (by go_simp) ⟨v62, v63, v64, v65, v66, v67, (.pointer (some ⟨ab, off + k * 2, none⟩)), (.int .u16 (x1 : Nat)), v70, v71, v72, v73, v74, v75, v76, v77, v78, v79, v80, v81, v82, rfl, { hs with e69 := fun _ => rfl }, hw⟩
        | 8, _ =>
          have e69x := hs.e69 (haft 7 (by decide))
          subst e69x
          exact i_val rfl (.int .u16 (y : Nat)) w' (by rfl) (by go_simp; first | done | exact EM) ⟨v62, v63, v64, v65, v66, v67, v68, (.int .u16 (x1 : Nat)), (.int .u16 (y : Nat)), v71, v72, v73, v74, v75, v76, v77, v78, v79, v80, v81, v82, rfl, { hs with e70 := fun _ => rfl }, hw⟩
        | 9, _ =>
          have e70x := hs.e70 (haft 8 (by decide))
          subst e70x
          exact i_val rfl (.int .u64 (y : Nat)) w' (by rfl) (by go_simp; first | done | exact EA) ⟨v62, v63, v64, v65, v66, v67, v68, v69, (.int .u16 (y : Nat)), (.int .u64 (y : Nat)), v72, v73, v74, v75, v76, v77, v78, v79, v80, v81, v82, rfl, { hs with e71 := fun _ => rfl }, hw⟩
        | 10, _ =>
          have e71x := hs.e71 (haft 9 (by decide))
          subst e71x
          exact i_call rfl (mac (byteF y)) 18 #[.int .u64 (y : Nat)] (fun w2 => Below w'.heap.size w' w2) (by rfl) (by go_simp) (fromInt_any y w') fun w2 hb => ⟨v62, v63, v64, v65, v66, v67, v68, v69, v70, (.int .u64 (y : Nat)), (mac (byteF y)), v73, v74, v75, v76, v77, v78, v79, v80, v81, v82, rfl, { hs with e72 := fun _ => rfl }, hw.next hb⟩
        | 11, _ =>
          have e72x := hs.e72 (haft 10 (by decide))
          subst e72x
          exact i_val rfl (kyV 1 y) w' (by rfl) (by go_simp) ⟨v62, v63, v64, v65, v66, v67, v68, v69, v70, v71, (mac (byteF y)), (kyV 1 y), v74, v75, v76, v77, v78, v79, v80, v81, v82, rfl, { hs with e73 := fun _ => rfl }, hw⟩
        | 12, _ =>
          exact i_val rfl (.pointer (some ⟨g, 1, none⟩)) w' (by rfl) (by go_simp) ⟨v62, v63, v64, v65, v66, v67, v68, v69, v70, v71, v72, v73, (.pointer (some ⟨g, 1, none⟩)), v75, v76, v77, v78, v79, v80, v81, v82, rfl, { hs with e74 := fun _ => rfl }, hw⟩
        | 13, _ =>
          have e74x := hs.e74 (haft 12 (by decide))
          subst e74x
          have q := (HH.out.cells w' hw.below).1.2.1
          exact i_val rfl (.slice (some ⟨ab, off, none⟩) n2 c2) w' (by rfl) (by go_simp) ⟨v62, v63, v64, v65, v66, v67, v68, v69, v70, v71, v72, v73, (.pointer (some ⟨g, 1, none⟩)), (.slice (some ⟨ab, off, none⟩) n2 c2), v76, v77, v78, v79, v80, v81, v82, rfl, { hs with e75 := fun _ => rfl }, hw⟩
        | 14, _ =>
          exact i_val rfl (.int .i64 (k : Nat)) w' (by rfl) (by go_simp) ⟨v62, v63, v64, v65, v66, v67, v68, v69, v70, v71, v72, v73, v74, v75, (.int .i64 (k : Nat)), v77, v78, v79, v80, v81, v82, rfl, { hs with e76 := fun _ => rfl }, hw⟩
        | 15, _ =>
          have e75x := hs.e75 (haft 13 (by decide))
          subst e75x
          have e76x := hs.e76 (haft 14 (by decide))
          subst e76x
          exact i_val rfl (.pointer (some ⟨ab, off + k * 2, none⟩)) w' (by rfl) (by go_simp) ⟨v62, v63, v64, v65, v66, v67, v68, v69, v70, v71, v72, v73, v74, (.slice (some ⟨ab, off, none⟩) n2 c2), (.int .i64 (k : Nat)), (.pointer (some ⟨ab, off + k * 2, none⟩)), v78, v79, v80, v81, v82, rfl, { hs with e77 := fun _ => rfl }, hw⟩
        | 16, _ =>
          have e77x := hs.e77 (haft 15 (by decide))
          subst e77x
          exact i_val rfl (.pointer (some ⟨ab, off + k * 2 + 1, none⟩)) w' (by rfl) (by go_simp) ⟨v62, v63, v64, v65, v66, v67, v68, v69, v70, v71, v72, v73, v74, v75, v76, (.pointer (some ⟨ab, off + k * 2, none⟩)), (.pointer (some ⟨ab, off + k * 2 + 1, none⟩)), v79, v80, v81, v82, rfl, { hs with e78 := fun _ => rfl }, hw⟩
        | 17, _ =>
          have e78x := hs.e78 (haft 16 (by decide))
          subst e78x
          have q := (HR w' hw.below).2
          exact i_val rfl (.int .u16 (x2 : Nat)) w' (by rfl) (by go_simp) ⟨v62, v63, v64, v65, v66, v67, v68, v69, v70, v71, v72, v73, v74, v75, v76, v77, (.pointer (some ⟨ab, off + k * 2 + 1, none⟩)), (.int .u16 (x2 : Nat)), v80, v81, v82, rfl, { hs with e79 := fun _ => rfl }, hw⟩
        | 18, _ =>
          have e79x := hs.e79 (haft 17 (by decide))
          subst e79x
          exact i_val rfl (.int .u32 (x2 : Nat)) w' (by rfl) (by go_simp; first | done | exact EC) ⟨v62, v63, v64, v65, v66, v67, v68, v69, v70, v71, v72, v73, v74, v75, v76, v77, v78, (.int .u16 (x2 : Nat)), (.int .u32 (x2 : Nat)), v81, v82, rfl, { hs with e80 := fun _ => rfl }, hw⟩
        | 19, _ =>
          have e73x := hs.e73 (haft 11 (by decide))
          subst e73x
          have e80x := hs.e80 (haft 18 (by decide))
          subst e80x
          exact i_val rfl (seV ⟨1, y, x2⟩) w' (by rfl) (by go_simp) ⟨v62, v63, v64, v65, v66, v67, v68, v69, v70, v71, v72, (kyV 1 y), v74, v75, v76, v77, v78, v79, (.int .u32 (x2 : Nat)), (seV ⟨1, y, x2⟩), v82, rfl, { hs with e81 := fun _ => rfl }, hw⟩
        | 20, _ =>
          have e63x := hs.e63 (haft 1 (by decide))
          subst e63x
          have e81x := hs.e81 (haft 19 (by decide))
          subst e81x
          refine i_callx rfl 17 #[.pointer (some ⟨i.b2, 0, none⟩), seV ⟨1, y, x2⟩] (fun v w2 => TpX w1 i P w2) (by rfl) (by go_simp) (hw.setS _ EY) ?_
          intro v w2 h2
          exact ⟨v62, (.pointer (some ⟨i.b2, 0, none⟩)), v64, v65, v66, v67, v68, v69, v70, v71, v72, v73, v74, v75, v76, v77, v78, v79, v80, (seV ⟨1, y, x2⟩), v, rfl, { hs with }, h2⟩
        | k + 21, h =>
          exfalso
          have h2 : k + 21 < 21 := h
          omega
      intro Lx ac w3 hI hall
      obtain ⟨v62, v63, v64, v65, v66, v67, v68, v69, v70, v71, v72, v73, v74, v75, v76, v77, v78, v79, v80, v81, v82, rfl, hs, hw⟩ := hI
      have K5 := Lib.hid hw
      clear hw hs hall HR cq
      go_wp2_with fail
      go_roundw
      case rel => exact ⟨k + 1, by omega, by omega, by go_num, K5.out⟩
      case measure => simp [intOf]; omega
    · have HE := Lib.hid (show ¬ (k : Int) < (n2 : Int) ∨ ((k : Int) < (n2 : Int) ∧ ¬ (k : Int) < 8) by omega)
      clear hlt hk hk2
      rcases HE.out with g1 | ⟨g1, g2⟩
      all_goals
        go_wp2_with fail
        exact HKX.out _ _ (e12 w0 w1 xs g i P a1 n1 c1 z1 a2 n2 c2 z2 a3 n3 c3 z3 fr vid a opn HH _ _ _ _ _ _ _ _ _ _ _ _ _ _ _ _ _ _ _ _ _ _ _ _ _ _ _ _ _ _ _ _ _ _ _ _ _ _ _ _ _ _ _ _ _ _ _ _ _ _ _ _ _ _ _ _ _ _ _ _ _ _ _ _ _ _ _ _ _ _ _ _ _ _ _ _ _ _ _ _ _ _ _ _ _ _ _ _ _ _ _ _ _ _ _ _ _ _ _ _ _ _ _ _ _ _ _ _ _ _ _ _ _ _ _ _ _ _ _ _ _ _ _ _ _ _ _ _ _ _ _ _ _ _ _ _ _ _ _ _ _ _ _ _ _ _ _ _ _ _ _ _ _ _ _ _ _ _ _ _ _ _ _ _ _ _ _ _ _ _ _ _ _ _ _ _ _ _ _ _ _ _ _ _ _ _ _ _ _ _ _ _ _ _ _ _ wr HI.out)

end Go.Proofs.Ytpjfpcebjneblaa
end
section
namespace Go.Proofs.Ytpjfpcebjneblaa
open Go.RowKit
attribute [local irreducible] wpQuiet
set_option linter.unusedSimpArgs false
set_option linter.unusedVariables false

/-- The slots, while the region runs. -/
structure R7S (g P : Nat) (i : Ix) (xs : Array Value) (ab off k nn cc x1 x2 : Nat) (f5 f6 f7 f8 f9 f10 f11 f12 f13 f14 f15 f16 f17 f18 f19 f20 f21 f22 f23 f24 f25 f26 f27 f28 f29 f30 f31 f51 f52 f53 f54 f55 f56 f57 f58 f59 f60 f61 f62 f63 f64 f65 f66 f67 f68 f69 f70 f71 f72 f73 f74 f75 f76 f77 f78 f79 f80 f81 f82 f83 f84 f85 f86 f87 f88 f89 f90 f91 f92 f93 f94 f95 f96 f97 f98 f99 f100 f101 f102 f103 f104 f105 f106 f107 f108 f109 f110 f111 f112 f113 f114 f115 f116 f117 f118 f119 f120 f121 f122 f123 f124 f125 f126 f127 f128 f129 f130 f131 f132 f133 f134 f135 f136 f137 f138 f139 f140 f141 f142 f143 f144 f145 f146 f147 f148 f149 f150 f151 f152 f153 f154 f155 f156 f157 f158 f159 f160 f161 f162 f163 f164 f165 f166 f167 f168 f169 f170 f171 f172 f173 f174 f175 f176 f177 f178 f179 f180 f181 f182 f183 f184 f185 f186 f187 f188 f189 f190 f191 f192 f193 f194 f195 f196 f197 f198 f199 : Value) (L : Nat → Bool) (v32 v33 v34 v35 v36 v37 v38 v39 v40 v41 v42 v43 v44 v45 v46 v47 v48 v49 v50 : Value) : Prop where
  e32 : L 0 = true → v32 = .pointer (some ⟨P, 0, none⟩)
  e33 : L 1 = true → v33 = .pointer (some ⟨i.b1, 0, none⟩)
  e34 : L 2 = true → v34 = .pointer (some ⟨g, 0, none⟩)
  e35 : L 3 = true → v35 = .slice (some ⟨ab, off, none⟩) nn cc
  e36 : L 4 = true → v36 = .int .i64 (k : Nat)
  e37 : L 5 = true → v37 = .pointer (some ⟨ab, off + k * 2, none⟩)
  e38 : L 6 = true → v38 = .pointer (some ⟨ab, off + k * 2, none⟩)
  e39 : L 7 = true → v39 = .int .u16 (x1 : Nat)
  e40 : L 8 = true → v40 = .int .u16 (x1 % 3 : Nat)
  e41 : L 9 = true → v41 = .int .u16 (1 + x1 % 3 : Nat)
  e42 : L 10 = true → v42 = .pointer (some ⟨g, 0, none⟩)
  e43 : L 11 = true → v43 = .slice (some ⟨ab, off, none⟩) nn cc
  e44 : L 12 = true → v44 = .int .i64 (k : Nat)
  e45 : L 13 = true → v45 = .pointer (some ⟨ab, off + k * 2, none⟩)
  e46 : L 14 = true → v46 = .pointer (some ⟨ab, off + k * 2 + 1, none⟩)
  e47 : L 15 = true → v47 = .int .u16 (x2 : Nat)
  e48 : L 16 = true → v48 = .int .u32 (x2 : Nat)
  e49 : L 17 = true → v49 = vlV ⟨1 + x1 % 3, x2, 0⟩
abbrev R7F (g P : Nat) (i : Ix) (xs : Array Value) (ab off k nn cc x1 x2 : Nat) (f5 f6 f7 f8 f9 f10 f11 f12 f13 f14 f15 f16 f17 f18 f19 f20 f21 f22 f23 f24 f25 f26 f27 f28 f29 f30 f31 f51 f52 f53 f54 f55 f56 f57 f58 f59 f60 f61 f62 f63 f64 f65 f66 f67 f68 f69 f70 f71 f72 f73 f74 f75 f76 f77 f78 f79 f80 f81 f82 f83 f84 f85 f86 f87 f88 f89 f90 f91 f92 f93 f94 f95 f96 f97 f98 f99 f100 f101 f102 f103 f104 f105 f106 f107 f108 f109 f110 f111 f112 f113 f114 f115 f116 f117 f118 f119 f120 f121 f122 f123 f124 f125 f126 f127 f128 f129 f130 f131 f132 f133 f134 f135 f136 f137 f138 f139 f140 f141 f142 f143 f144 f145 f146 f147 f148 f149 f150 f151 f152 f153 f154 f155 f156 f157 f158 f159 f160 f161 f162 f163 f164 f165 f166 f167 f168 f169 f170 f171 f172 f173 f174 f175 f176 f177 f178 f179 f180 f181 f182 f183 f184 f185 f186 f187 f188 f189 f190 f191 f192 f193 f194 f195 f196 f197 f198 f199 : Value) (v32 v33 v34 v35 v36 v37 v38 v39 v40 v41 v42 v43 v44 v45 v46 v47 v48 v49 v50 : Value) : Act := { tmps := #[.agg xs, .pointer (some ⟨g, 0, none⟩), .bool false, .pointer (some ⟨P, 0, none⟩), .int .i64 (k : Nat), f5, f6, f7, f8, f9, f10, f11, f12, f13, f14, f15, f16, f17, f18, f19, f20, f21, f22, f23, f24, f25, f26, f27, f28, f29, f30, f31, v32, v33, v34, v35, v36, v37, v38, v39, v40, v41, v42, v43, v44, v45, v46, v47, v48, v49, v50, f51, f52, f53, f54, f55, f56, f57, f58, f59, f60, f61, f62, f63, f64, f65, f66, f67, f68, f69, f70, f71, f72, f73, f74, f75, f76, f77, f78, f79, f80, f81, f82, f83, f84, f85, f86, f87, f88, f89, f90, f91, f92, f93, f94, f95, f96, f97, f98, f99, f100, f101, f102, f103, f104, f105, f106, f107, f108, f109, f110, f111, f112, f113, f114, f115, f116, f117, f118, f119, f120, f121, f122, f123, f124, f125, f126, f127, f128, f129, f130, f131, f132, f133, f134, f135, f136, f137, f138, f139, f140, f141, f142, f143, f144, f145, f146, f147, f148, f149, f150, f151, f152, f153, f154, f155, f156, f157, f158, f159, f160, f161, f162, f163, f164, f165, f166, f167, f168, f169, f170, f171, f172, f173, f174, f175, f176, f177, f178, f179, f180, f181, f182, f183, f184, f185, f186, f187, f188, f189, f190, f191, f192, f193, f194, f195, f196, f197, f198, f199], defers := [] }
def R7I (g P : Nat) (i : Ix) (xs : Array Value) (ab off k nn cc x1 x2 : Nat) (f5 f6 f7 f8 f9 f10 f11 f12 f13 f14 f15 f16 f17 f18 f19 f20 f21 f22 f23 f24 f25 f26 f27 f28 f29 f30 f31 f51 f52 f53 f54 f55 f56 f57 f58 f59 f60 f61 f62 f63 f64 f65 f66 f67 f68 f69 f70 f71 f72 f73 f74 f75 f76 f77 f78 f79 f80 f81 f82 f83 f84 f85 f86 f87 f88 f89 f90 f91 f92 f93 f94 f95 f96 f97 f98 f99 f100 f101 f102 f103 f104 f105 f106 f107 f108 f109 f110 f111 f112 f113 f114 f115 f116 f117 f118 f119 f120 f121 f122 f123 f124 f125 f126 f127 f128 f129 f130 f131 f132 f133 f134 f135 f136 f137 f138 f139 f140 f141 f142 f143 f144 f145 f146 f147 f148 f149 f150 f151 f152 f153 f154 f155 f156 f157 f158 f159 f160 f161 f162 f163 f164 f165 f166 f167 f168 f169 f170 f171 f172 f173 f174 f175 f176 f177 f178 f179 f180 f181 f182 f183 f184 f185 f186 f187 f188 f189 f190 f191 f192 f193 f194 f195 f196 f197 f198 f199 : Value) (w1 : World) (L : Nat → Bool) (ac : Act) (w : World) : Prop :=
  ∃ v32 v33 v34 v35 v36 v37 v38 v39 v40 v41 v42 v43 v44 v45 v46 v47 v48 v49 v50, ac = R7F g P i xs ab off k nn cc x1 x2 f5 f6 f7 f8 f9 f10 f11 f12 f13 f14 f15 f16 f17 f18 f19 f20 f21 f22 f23 f24 f25 f26 f27 f28 f29 f30 f31 f51 f52 f53 f54 f55 f56 f57 f58 f59 f60 f61 f62 f63 f64 f65 f66 f67 f68 f69 f70 f71 f72 f73 f74 f75 f76 f77 f78 f79 f80 f81 f82 f83 f84 f85 f86 f87 f88 f89 f90 f91 f92 f93 f94 f95 f96 f97 f98 f99 f100 f101 f102 f103 f104 f105 f106 f107 f108 f109 f110 f111 f112 f113 f114 f115 f116 f117 f118 f119 f120 f121 f122 f123 f124 f125 f126 f127 f128 f129 f130 f131 f132 f133 f134 f135 f136 f137 f138 f139 f140 f141 f142 f143 f144 f145 f146 f147 f148 f149 f150 f151 f152 f153 f154 f155 f156 f157 f158 f159 f160 f161 f162 f163 f164 f165 f166 f167 f168 f169 f170 f171 f172 f173 f174 f175 f176 f177 f178 f179 f180 f181 f182 f183 f184 f185 f186 f187 f188 f189 f190 f191 f192 f193 f194 f195 f196 f197 f198 f199 v32 v33 v34 v35 v36 v37 v38 v39 v40 v41 v42 v43 v44 v45 v46 v47 v48 v49 v50 ∧ R7S g P i xs ab off k nn cc x1 x2 f5 f6 f7 f8 f9 f10 f11 f12 f13 f14 f15 f16 f17 f18 f19 f20 f21 f22 f23 f24 f25 f26 f27 f28 f29 f30 f31 f51 f52 f53 f54 f55 f56 f57 f58 f59 f60 f61 f62 f63 f64 f65 f66 f67 f68 f69 f70 f71 f72 f73 f74 f75 f76 f77 f78 f79 f80 f81 f82 f83 f84 f85 f86 f87 f88 f89 f90 f91 f92 f93 f94 f95 f96 f97 f98 f99 f100 f101 f102 f103 f104 f105 f106 f107 f108 f109 f110 f111 f112 f113 f114 f115 f116 f117 f118 f119 f120 f121 f122 f123 f124 f125 f126 f127 f128 f129 f130 f131 f132 f133 f134 f135 f136 f137 f138 f139 f140 f141 f142 f143 f144 f145 f146 f147 f148 f149 f150 f151 f152 f153 f154 f155 f156 f157 f158 f159 f160 f161 f162 f163 f164 f165 f166 f167 f168 f169 f170 f171 f172 f173 f174 f175 f176 f177 f178 f179 f180 f181 f182 f183 f184 f185 f186 f187 f188 f189 f190 f191 f192 f193 f194 f195 f196 f197 f198 f199 L v32 v33 v34 v35 v36 v37 v38 v39 v40 v41 v42 v43 v44 v45 v46 v47 v48 v49 v50 ∧ TpX w1 i P w
set_option maxRecDepth 100000 in
set_option maxHeartbeats 16000000 in
theorem eg_walk (w0 : World) (a1 : Option Addr) (n1 c1 : Nat) (z1 : List (Nat × Nat)) (a2 : Option Addr) (n2 c2 : Nat) (z2 : List (Nat × Nat)) (a3 : Option Addr) (n3 c3 : Nat) (z3 : List (Nat × Nat)) (fr : Int) (vid a opn : Nat) (h1 : IsPairs w0 a1 n1 c1 z1) (h2 : IsPairs w0 a2 n2 c2 z2) (h3 : IsPairs8 w0 a3 n3 c3 z3) (ha : a < 281474976710656) (ho : opn < 4294967296) :
    Calls Try.prog 5 #[.agg #[.slice a1 n1 c1, .slice a2 n2 c2, .slice a3 n3 c3, .int .i64 fr, .int .u16 (vid : Nat), .int .u8 (byteF a 0 : Nat), .int .u8 (byteF a 1 : Nat), .int .u8 (byteF a 2 : Nat), .int .u8 (byteF a 3 : Nat), .int .u8 (byteF a 4 : Nat), .int .u8 (byteF a 5 : Nat), .int .u32 (opn : Nat)]] w0 fun e w' => e = .returned (.bool true) ∧ Below w0.heap.size w0 w' := by
  obtain ⟨xs, hxs⟩ : ∃ xs : Array Value, xs = #[.slice a1 n1 c1, .slice a2 n2 c2, .slice a3 n3 c3, .int .i64 fr, .int .u16 (vid : Nat), .int .u8 (byteF a 0 : Nat), .int .u8 (byteF a 1 : Nat), .int .u8 (byteF a 2 : Nat), .int .u8 (byteF a 3 : Nat), .int .u8 (byteF a 4 : Nat), .int .u8 (byteF a 5 : Nat), .int .u32 (opn : Nat)] := ⟨_, rfl⟩
  obtain ⟨g, hg⟩ : ∃ g, g = w0.heap.size := ⟨_, rfl⟩
  obtain ⟨w1, hw1⟩ : ∃ w1, w1 = w0.alloc (.cells xs 51) := ⟨_, rfl⟩
  have hb1 : Below w0.heap.size w0 w1 := by rw [hw1]; exact (Below.refl _ _).alloc (Nat.le_refl _) _
  have hk1 : Blk w1 g xs 51 := by rw [hw1, hg]; exact Blk.new _ _ _
  have hlt : g < w1.heap.size := hk1.lt
  have HH := Lib.hid (show EgH w0 w1 g a1 n1 c1 z1 a2 n2 c2 z2 a3 n3 c3 z3 fr vid a opn from ⟨hb1, fun W hW => by
    have k := hk1.below hW hlt
    rw [hxs] at k
    exact ⟨⟨k.cell 0, k.cell 1, k.cell 2, k.cell 3, k.cell 4, k.cell 11⟩, k.cell 5, k.cell 6, k.cell 7, k.cell 8, k.cell 9, k.cell 10⟩, h1, h2, h3, ha, ho⟩)
  have HW := Lib.hid hw1
  have HG := Lib.hid hg
  have HXS := Lib.hid hxs
  have RN := Lib.hid (show ∀ W : World, Blk (W.alloc (.cells #[.pointer none, .pointer none, .pointer none] 55)) W.heap.size #[.pointer none, .pointer none, .pointer none] 55 from fun W => Blk.new W _ 55)
  have SZT := Lib.hid t3Size
  clear hxs hg hw1 hb1 hk1 hlt h1 h2 h3 ha ho
  go_enter Try.func5, Try.ntmps5
  go_upto_region 1 with fail
  rw [← HXS.out, ← HW.out, ← HG.out]
  go_upto_region 4 with (first | (go_at_call 15; refine (speaks12_any w1).mono ?_; rintro e w2 ⟨rfl, hb2⟩) | (go_at_call 16; refine (tables_any _).mono ?_; rintro e w3 ⟨i, rfl, h3⟩))
  obtain ⟨P, hP⟩ : ∃ P, P = w3.heap.size := ⟨_, rfl⟩
  obtain ⟨w4, hw4⟩ : ∃ w4, w4 = w3.alloc (.cells (t3A i) 55) := ⟨_, rfl⟩
  have T4 := Lib.hid (show TpX w1 i P w4 from by
    have h4 := h3.next ((Below.refl _ _).alloc (Nat.le_refl _) (.cells (t3A i) 55))
    rw [← hw4] at h4
    have h5 : T3 w1 i [] [] [] w4 := ⟨h4.tabV, h4.tabS, h4.tabF, ⟨Nat.le_trans hb2.size h4.low.1, h4.low.2⟩, hb2.trans (h4.below.mono hb2.size), h4.smV, h4.smS⟩
    exact ⟨[], [], [], by simp, h5, by rw [hw4, hP]; exact Blk.new _ _ _, by rw [hP]; exact h3.low.2.2.2.2.2.2⟩)
  rw [← hw4, ← hP]
  clear hw4 hP h3 hb2
  go_upto_region 5 with fail
  rename_i KX hKX
  have HKX := Lib.hid hKX
  clear hKX
  have hlc : (n1 : Int) ≤ 9223372036854775807 := by have q := HH.out.p1.2.2.2.1; have q1 := q.1; have q2 := q.2; unfold maxLen at *; omega
  go_loopw [4] (fun j wr => ∃ k : Nat, k ≤ n1 ∧ k ≤ 8 ∧ j = .int .i64 k ∧ TpX w1 i P wr) (fun j _ => (8 - intOf j).toNat)
  case atStart => exact ⟨0, by omega, by omega, rfl, T4.out⟩
  case round =>
    obtain ⟨k, hk, hk2, rfl, hI⟩ := hrel
    have HI := Lib.hid hI
    clear hI
    have cq := (HH.out.cells wr HI.out.below).1.1
    by_cases hlt : k < n1 ∧ k < 8
    · obtain ⟨h1, h2⟩ := hlt
      obtain ⟨ab, off, x1, x2, rfl, b1, b2, hkc, HR⟩ := pairs_row HH.out.low HH.out.p1 h1
      obtain ⟨hkc, hnc⟩ := hkc
      have EM : (x1 : Int).tmod 3 = ((x1 % 3 : Nat) : Int) := tmod_nat x1 3
      have EA : IntKind.u16.wrap (1 + ((x1 % 3 : Nat) : Int)) = ((1 + x1 % 3 : Nat) : Int) := by simp [IntKind.wrap, IntKind.bits, IntKind.signed]; omega
      have EC := wrapE_u32 (show x2 < 4294967296 by omega)
      go_upto_region 7 with fail
      refine wp_region_inv (I := R7I g P i xs ab off k n1 c1 x1 x2 _ _ _ _ _ _ _ _ _ _ _ _ _ _ _ _ _ _ _ _ _ _ _ _ _ _ _ _ _ _ _ _ _ _ _ _ _ _ _ _ _ _ _ _ _ _ _ _ _ _ _ _ _ _ _ _ _ _ _ _ _ _ _ _ _ _ _ _ _ _ _ _ _ _ _ _ _ _ _ _ _ _ _ _ _ _ _ _ _ _ _ _ _ _ _ _ _ _ _ _ _ _ _ _ _ _ _ _ _ _ _ _ _ _ _ _ _ _ _ _ _ _ _ _ _ _ _ _ _ _ _ _ _ _ _ _ _ _ _ _ _ _ _ _ _ _ _ _ _ _ _ _ _ _ _ _ _ _ _ _ _ _ _ _ _ _ _ _ _ _ _ _ _ _ _ _ w1) (by kernel_rfl) (by kernel_rfl) ⟨_, _, _, _, _, _, _, _, _, _, _, _, _, _, _, _, _, _, _, rfl, ⟨(fun h => Bool.noConfusion h), (fun h => Bool.noConfusion h), (fun h => Bool.noConfusion h), (fun h => Bool.noConfusion h), (fun h => Bool.noConfusion h), (fun h => Bool.noConfusion h), (fun h => Bool.noConfusion h), (fun h => Bool.noConfusion h), (fun h => Bool.noConfusion h), (fun h => Bool.noConfusion h), (fun h => Bool.noConfusion h), (fun h => Bool.noConfusion h), (fun h => Bool.noConfusion h), (fun h => Bool.noConfusion h), (fun h => Bool.noConfusion h), (fun h => Bool.noConfusion h), (fun h => Bool.noConfusion h), (fun h => Bool.noConfusion h)⟩, HI.out.next (Below.refl _ _).drew⟩ ?_ ?_
      · intro o ho Lx ac w' hI hL haft
        obtain ⟨v32, v33, v34, v35, v36, v37, v38, v39, v40, v41, v42, v43, v44, v45, v46, v47, v48, v49, v50, rfl, hs, hw⟩ := hI
        match o, ho with
        | 0, _ =>
          exact i_val rfl (.pointer (some ⟨P, 0, none⟩)) w' (by rfl) (by go_simp) ⟨(.pointer (some ⟨P, 0, none⟩)), v33, v34, v35, v36, v37, v38, v39, v40, v41, v42, v43, v44, v45, v46, v47, v48, v49, v50, rfl, { hs with e32 := fun _ => rfl }, hw⟩
        | 1, _ =>
          have e32x := hs.e32 (haft 0 (by decide))
          subst e32x
          have q := hw.cells.1
          exact i_val rfl (.pointer (some ⟨i.b1, 0, none⟩)) w' (by rfl) (by go_simp) ⟨(.pointer (some ⟨P, 0, none⟩)), (.pointer (some ⟨i.b1, 0, none⟩)), v34, v35, v36, v37, v38, v39, v40, v41, v42, v43, v44, v45, v46, v47, v48, v49, v50, rfl, { hs with e33 := fun _ => rfl }, hw⟩
        | 2, _ =>
          exact i_val rfl (.pointer (some ⟨g, 0, none⟩)) w' (by rfl) (by go_simp) ⟨v32, v33, (.pointer (some ⟨g, 0, none⟩)), v35, v36, v37, v38, v39, v40, v41, v42, v43, v44, v45, v46, v47, v48, v49, v50, rfl, { hs with e34 := fun _ => rfl }, hw⟩
        | 3, _ =>
          have e34x := hs.e34 (haft 2 (by decide))
          subst e34x
          have q := (HH.out.cells w' hw.below).1.1
          exact i_val rfl (.slice (some ⟨ab, off, none⟩) n1 c1) w' (by rfl) (by go_simp) ⟨v32, v33, (.pointer (some ⟨g, 0, none⟩)), (.slice (some ⟨ab, off, none⟩) n1 c1), v36, v37, v38, v39, v40, v41, v42, v43, v44, v45, v46, v47, v48, v49, v50, rfl, { hs with e35 := fun _ => rfl }, hw⟩
        | 4, _ =>
          exact i_val rfl (.int .i64 (k : Nat)) w' (by rfl) (by go_simp) ⟨v32, v33, v34, v35, (.int .i64 (k : Nat)), v37, v38, v39, v40, v41, v42, v43, v44, v45, v46, v47, v48, v49, v50, rfl, { hs with e36 := fun _ => rfl }, hw⟩
        | 5, _ =>
          have e35x := hs.e35 (haft 3 (by decide))
          subst e35x
          have e36x := hs.e36 (haft 4 (by decide))
          subst e36x
          exact i_val rfl (.pointer (some ⟨ab, off + k * 2, none⟩)) w' (by rfl) (by go_simp) ⟨v32, v33, v34, (.slice (some ⟨ab, off, none⟩) n1 c1), (.int .i64 (k : Nat)), (.pointer (some ⟨ab, off + k * 2, none⟩)), v38, v39, v40, v41, v42, v43, v44, v45, v46, v47, v48, v49, v50, rfl, { hs with e37 := fun _ => rfl }, hw⟩
        | 6, _ =>
          have e37x := hs.e37 (haft 5 (by decide))
          subst e37x
          exact i_val rfl (.pointer (some ⟨ab, off + k * 2, none⟩)) w' (by rfl) (by go_simp) ⟨v32, v33, v34, v35, v36, (.pointer (some ⟨ab, off + k * 2, none⟩)), (.pointer (some ⟨ab, off + k * 2, none⟩)), v39, v40, v41, v42, v43, v44, v45, v46, v47, v48, v49, v50, rfl, { hs with e38 := fun _ => rfl }, hw⟩
        | 7, _ =>
          have e38x := hs.e38 (haft 6 (by decide))
          subst e38x
          have q := (HR w' hw.below).1
          exact i_val rfl (.int .u16 (x1 : Nat)) w' (by rfl) (by go_simp) ⟨v32, v33, v34, v35, v36, v37, (.pointer (some ⟨ab, off + k * 2, none⟩)), (.int .u16 (x1 : Nat)), v40, v41, v42, v43, v44, v45, v46, v47, v48, v49, v50, rfl, { hs with e39 := fun _ => rfl }, hw⟩
        | 8, _ =>
          have e39x := hs.e39 (haft 7 (by decide))
          subst e39x
          exact i_val rfl (.int .u16 (x1 % 3 : Nat)) w' (by rfl) (by go_simp; first | done | exact EM) ⟨v32, v33, v34, v35, v36, v37, v38, (.int .u16 (x1 : Nat)), (.int .u16 (x1 % 3 : Nat)), v41, v42, v43, v44, v45, v46, v47, v48, v49, v50, rfl, { hs with e40 := fun _ => rfl }, hw⟩
        | 9, _ =>
          have e40x := hs.e40 (haft 8 (by decide))
          subst e40x
          exact i_val rfl (.int .u16 (1 + x1 % 3 : Nat)) w' (by rfl) (by go_simp; first | done | exact EA) ⟨v32, v33, v34, v35, v36, v37, v38, v39, (.int .u16 (x1 % 3 : Nat)), (.int .u16 (1 + x1 % 3 : Nat)), v42, v43, v44, v45, v46, v47, v48, v49, v50, rfl, { hs with e41 := fun _ => rfl }, hw⟩
        | 10, _ =>
          exact i_val rfl (.pointer (some ⟨g, 0, none⟩)) w' (by rfl) (by go_simp) ⟨v32, v33, v34, v35, v36, v37, v38, v39, v40, v41, (.pointer (some ⟨g, 0, none⟩)), v43, v44, v45, v46, v47, v48, v49, v50, rfl, { hs with e42 := fun _ => rfl }, hw⟩
        | 11, _ =>
          have e42x := hs.e42 (haft 10 (by decide))
          subst e42x
          have q := (HH.out.cells w' hw.below).1.1
          exact i_val rfl (.slice (some ⟨ab, off, none⟩) n1 c1) w' (by rfl) (by go_simp) ⟨v32, v33, v34, v35, v36, v37, v38, v39, v40, v41, (.pointer (some ⟨g, 0, none⟩)), (.slice (some ⟨ab, off, none⟩) n1 c1), v44, v45, v46, v47, v48, v49, v50, rfl, { hs with e43 := fun _ => rfl }, hw⟩
        | 12, _ =>
          exact i_val rfl (.int .i64 (k : Nat)) w' (by rfl) (by go_simp) ⟨v32, v33, v34, v35, v36, v37, v38, v39, v40, v41, v42, v43, (.int .i64 (k : Nat)), v45, v46, v47, v48, v49, v50, rfl, { hs with e44 := fun _ => rfl }, hw⟩
        | 13, _ =>
          have e43x := hs.e43 (haft 11 (by decide))
          subst e43x
          have e44x := hs.e44 (haft 12 (by decide))
          subst e44x
          exact i_val rfl (.pointer (some ⟨ab, off + k * 2, none⟩)) w' (by rfl) (by go_simp) ⟨v32, v33, v34, v35, v36, v37, v38, v39, v40, v41, v42, (.slice (some ⟨ab, off, none⟩) n1 c1), (.int .i64 (k : Nat)), (.pointer (some ⟨ab, off + k * 2, none⟩)), v46, v47, v48, v49, v50, rfl, { hs with e45 := fun _ => rfl }, hw⟩
        | 14, _ =>
          have e45x := hs.e45 (haft 13 (by decide))
          subst e45x
          exact i_val rfl (.pointer (some ⟨ab, off + k * 2 + 1, none⟩)) w' (by rfl) (by go_simp) ⟨v32, v33, v34, v35, v36, v37, v38, v39, v40, v41, v42, v43, v44, (.pointer (some ⟨ab, off + k * 2, none⟩)), (.pointer (some ⟨ab, off + k * 2 + 1, none⟩)), v47, v48, v49, v50, rfl, { hs with e46 := fun _ => rfl }, hw⟩
        | 15, _ =>
          have e46x := hs.e46 (haft 14 (by decide))
          subst e46x
          have q := (HR w' hw.below).2
          exact i_val rfl (.int .u16 (x2 : Nat)) w' (by rfl) (by go_simp) ⟨v32, v33, v34, v35, v36, v37, v38, v39, v40, v41, v42, v43, v44, v45, (.pointer (some ⟨ab, off + k * 2 + 1, none⟩)), (.int .u16 (x2 : Nat)), v48, v49, v50, rfl, { hs with e47 := fun _ => rfl }, hw⟩
        | 16, _ =>
          have e47x := hs.e47 (haft 15 (by decide))
          subst e47x
          exact i_val rfl (.int .u32 (x2 : Nat)) w' (by rfl) (by go_simp; first | done | exact EC) ⟨v32, v33, v34, v35, v36, v37, v38, v39, v40, v41, v42, v43, v44, v45, v46, (.int .u16 (x2 : Nat)), (.int .u32 (x2 : Nat)), v49, v50, rfl, { hs with e48 := fun _ => rfl }, hw⟩
        | 17, _ =>
          have e41x := hs.e41 (haft 9 (by decide))
          subst e41x
          have e48x := hs.e48 (haft 16 (by decide))
          subst e48x
          exact i_val rfl (vlV ⟨1 + x1 % 3, x2, 0⟩) w' (by rfl) (by go_simp) ⟨v32, v33, v34, v35, v36, v37, v38, v39, v40, (.int .u16 (1 + x1 % 3 : Nat)), v42, v43, v44, v45, v46, v47, (.int .u32 (x2 : Nat)), (vlV ⟨1 + x1 % 3, x2, 0⟩), v50, rfl, { hs with e49 := fun _ => rfl }, hw⟩
        | 18, _ =>
          have e33x := hs.e33 (haft 1 (by decide))
          subst e33x
          have e49x := hs.e49 (haft 17 (by decide))
          subst e49x
          refine i_callx rfl 10 #[.pointer (some ⟨i.b1, 0, none⟩), vlV ⟨1 + x1 % 3, x2, 0⟩] (fun v w2 => TpX w1 i P w2) (by rfl) (by go_simp) (hw.setV _) ?_
          intro v w2 h2
          exact ⟨v32, (.pointer (some ⟨i.b1, 0, none⟩)), v34, v35, v36, v37, v38, v39, v40, v41, v42, v43, v44, v45, v46, v47, v48, (vlV ⟨1 + x1 % 3, x2, 0⟩), v, rfl, { hs with }, h2⟩
        | k + 19, h =>
          exfalso
          have h2 : k + 19 < 19 := h
          omega
      intro Lx ac w3 hI hall
      obtain ⟨v32, v33, v34, v35, v36, v37, v38, v39, v40, v41, v42, v43, v44, v45, v46, v47, v48, v49, v50, rfl, hs, hw⟩ := hI
      have K5 := Lib.hid hw
      clear hw hs hall HR cq
      go_wp2_with fail
      go_roundw
      case rel => exact ⟨k + 1, by omega, by omega, by go_num, K5.out⟩
      case measure => simp [intOf]; omega
    · have HE := Lib.hid (show ¬ (k : Int) < (n1 : Int) ∨ ((k : Int) < (n1 : Int) ∧ ¬ (k : Int) < 8) by omega)
      clear hlt hk hk2
      rcases HE.out with g1 | ⟨g1, g2⟩
      all_goals
        go_wp2_with fail
        exact HKX.out _ _ (e8 w0 w1 xs g i P a1 n1 c1 z1 a2 n2 c2 z2 a3 n3 c3 z3 fr vid a opn HH _ _ _ _ _ _ _ _ _ _ _ _ _ _ _ _ _ _ _ _ _ _ _ _ _ _ _ _ _ _ _ _ _ _ _ _ _ _ _ _ _ _ _ _ _ _ _ _ _ _ _ _ _ _ _ _ _ _ _ _ _ _ _ _ _ _ _ _ _ _ _ _ _ _ _ _ _ _ _ _ _ _ _ _ _ _ _ _ _ _ _ _ _ _ _ _ _ _ _ _ _ _ _ _ _ _ _ _ _ _ _ _ _ _ _ _ _ _ _ _ _ _ _ _ _ _ _ _ _ _ _ _ _ _ _ _ _ _ _ _ _ _ _ _ _ _ _ _ _ _ _ _ _ _ _ _ _ _ _ _ _ _ _ _ _ _ _ _ _ _ _ _ _ _ _ _ _ _ _ _ _ _ _ _ _ _ _ _ _ _ _ _ _ _ _ _ wr HI.out)
end Go.Proofs.Ytpjfpcebjneblaa
end
section
namespace Go.Proofs.Ytpjfpcebjneblaa
open Go.RowKit
set_option linter.unusedVariables false
theorem eg_law (a1 : Option Addr) (n1 k1 : Nat) (z1 : List (Nat × Nat)) (a2 : Option Addr) (n2 k2 : Nat) (z2 : List (Nat × Nat)) (a3 : Option Addr) (n3 k3 : Nat) (z3 : List (Nat × Nat)) (fr vid m0 m1 m2 m3 m4 m5 opn : Int) (w : World)
    (h1 : IsPairs w a1 n1 k1 z1) (h2 : IsPairs w a2 n2 k2 z2) (h3 : IsPairs8 w a3 n3 k3 z3) (hv : (Lit.int .u16 vid).wf = true)
    (hm : (Lit.int .u8 m0).wf = true ∧ (Lit.int .u8 m1).wf = true ∧ (Lit.int .u8 m2).wf = true ∧ (Lit.int .u8 m3).wf = true ∧ (Lit.int .u8 m4).wf = true ∧ (Lit.int .u8 m5).wf = true) (ho : (Lit.int .u32 opn).wf = true) :
    Calls Try.prog 5 #[.agg #[.slice a1 n1 k1, .slice a2 n2 k2, .slice a3 n3 k3, .int .i64 fr, .int .u16 vid, .int .u8 m0, .int .u8 m1, .int .u8 m2, .int .u8 m3, .int .u8 m4, .int .u8 m5, .int .u32 opn]] w fun e w' => e = .returned (.bool true) ∧ Below w.heap.size w w' := by
  obtain ⟨v, rfl, _⟩ := nat_of_u16 hv
  obtain ⟨o, rfl, ho'⟩ := nat_of_u32 ho
  obtain ⟨q0, q1, q2, q3, q4, q5⟩ := hm
  obtain ⟨b0, rfl, l0⟩ := nat_of_u8 q0
  obtain ⟨b1, rfl, l1⟩ := nat_of_u8 q1
  obtain ⟨b2, rfl, l2⟩ := nat_of_u8 q2
  obtain ⟨b3, rfl, l3⟩ := nat_of_u8 q3
  obtain ⟨b4, rfl, l4⟩ := nat_of_u8 q4
  obtain ⟨b5, rfl, l5⟩ := nat_of_u8 q5
  obtain ⟨m, hm⟩ : ∃ m : Nat → Nat, m = fun i => match i with | 0 => b0 | 1 => b1 | 2 => b2 | 3 => b3 | 4 => b4 | _ => b5 := ⟨_, rfl⟩
  have h6 : Six m := by rw [hm]; exact ⟨l0, l1, l2, l3, l4, l5⟩
  have key := eg_walk w a1 n1 k1 z1 a2 n2 k2 z2 a3 n3 k3 z3 fr v (numF m 6) o h1 h2 h3 (numF_lt h6) ho'
  have e := byteF_numF h6
  simp only [mac, Value.agg.injEq, Array.mk.injEq, List.cons.injEq, Value.int.injEq, true_and, and_true] at e
  obtain ⟨e0, e1, e2, e3, e4, e5⟩ := e
  rw [e0, e1, e2, e3, e4, e5, hm] at key
  exact key
end Go.Proofs.Ytpjfpcebjneblaa
end
