/- Ingress: a frame's VLAN, and what becomes of it. -/
import Derived.Test.YtpjfpcebjneblaaIng
import Derived.Test.YtpjfpcebjneblaaFEq
namespace Go.Proofs.Ytpjfpcebjneblaa
open Go.RowKit
attribute [local irreducible] wpQuiet
set_option linter.unusedSimpArgs false
set_option linter.unusedVariables false

/-- What becomes of it: its settings, whether it has a VLAN of its own, whether there is its VLAN, whether the port is a member. -/
def ingC (ac : Int) (fi own found mem : Bool) : Int := if accB ac own = false then 1 else if found = false then 2 else if fi = true ∧ mem = false then 3 else 0
def ingV (vid : Nat) (c : Int) : Nat := if c = 0 then vid else 0
theorem ret_ing {a b : Nat} {c d : Int} (h : a = b) (g : c = d) : Ending.returned (.tuple #[.int .u16 (a : Nat), .int .i64 c]) = .returned (.tuple #[.int .u16 (b : Nat), .int .i64 d]) := by rw [h, g]

set_option maxRecDepth 100000 in
set_option maxHeartbeats 4000000 in
theorem ingress_any (pv : Nat) (ac : Int) (fi : Bool) (no : Int) (arr : Array Value) (tg : Bool) (vi : Nat) (a12 : arr[12]? = some (.bool tg)) (a15 : arr[15]? = some (.int .u16 (vi : Nat))) (hsz : arr.size = 18)
    (tv : Value) (x : Vl) (hm : x.mem < 4294967296) (found : Bool) (w : World)
    (hget : ∀ W, Below w.heap.size w W → Calls Try.prog 12 #[tv, .int .u16 ((if ownB tg vi then vi else pv : Nat) : Nat)] W fun e w' => e = .returned (.tuple #[vlV x, .bool found]) ∧ Below W.heap.size W w') :
    Calls Try.prog 14 #[.agg (poA pv ac fi), .int .i64 no, .agg arr, tv] w fun e w' =>
      e = .returned (.tuple #[.int .u16 (ingV (if ownB tg vi then vi else pv) (ingC ac fi (ownB tg vi) found (hasB x.mem no)) : Nat), .int .i64 (ingC ac fi (ownB tg vi) found (hasB x.mem no))]) ∧ Below w.heap.size w w' := by
  obtain ⟨xv, m, u⟩ := x
  simp only at hm ⊢
  obtain ⟨G, hG⟩ : ∃ G, G = w.heap.size := ⟨_, rfl⟩
  obtain ⟨w1, hw1⟩ : ∃ w1, w1 = (w.alloc (.cells (poA pv ac fi) 30)).alloc (.cells arr 46) := ⟨_, rfl⟩
  have hb1 : Below w.heap.size w w1 := by rw [hw1]; exact ((Below.refl w.heap.size w).alloc (Nat.le_refl _) _).alloc (by simp) _
  have hp1 : Blk w1 G (poA pv ac fi) 30 := by rw [hw1, hG]; exact (Blk.new _ _ _).alloc _
  have hf1 : Blk w1 (G + 1) arr 46 := by
    have := Blk.new (w.alloc (.cells (poA pv ac fi) 30)) arr 46
    rw [hw1, hG]
    simpa using this
  obtain ⟨own, hown⟩ : ∃ own, own = ownB tg vi := ⟨_, rfl⟩
  obtain ⟨vid, hvid⟩ : ∃ vid, vid = (if ownB tg vi then vi else pv : Nat) := ⟨_, rfl⟩
  obtain ⟨has, hhas⟩ : ∃ has, has = hasB m no := ⟨_, rfl⟩
  obtain ⟨acc, hacc⟩ : ∃ acc, acc = accB ac own := ⟨_, rfl⟩
  rw [← hvid] at hget
  rw [← hown, ← hhas, show (if own = true then vi else pv) = vid by rw [hvid, hown]]
  obtain ⟨C, hC⟩ : ∃ C, C = ingC ac fi own found has := ⟨_, rfl⟩
  rw [← hC]
  have HGET := Lib.hid hget
  have HG := Lib.hid hG
  have HW := Lib.hid hw1
  have HB1 := Lib.hid hb1
  have HP := Lib.hid (show ∀ w', Below w1.heap.size w1 w' → Blk w' G (poA pv ac fi) 30 from fun w' hb => hp1.below hb hp1.lt)
  have HF := Lib.hid (show ∀ w', Below w1.heap.size w1 w' → Blk w' (G + 1) arr 46 from fun w' hb => hf1.below hb hf1.lt)
  have SZ := Lib.hid (show (Try.prog.info? 46).map (·.size) = some arr.size by rw [hsz]; exact size52)
  have SZP := Lib.hid poSize
  have OWN := Lib.hid (show ∀ W : World, Calls Try.prog 32 #[.agg arr] W fun e w' => e = .returned (.bool own) ∧ Below W.heap.size W w' from fun W => by rw [hown]; exact own_any arr tg vi a12 a15 W)
  have ACC := Lib.hid (show ∀ W : World, Calls Try.prog 33 #[.agg (poA pv ac fi), .bool own] W fun e w' => e = .returned (.bool acc) ∧ Below W.heap.size W w' from fun W => by rw [hacc]; exact accepts_any pv ac fi own W)
  have HAS := Lib.hid (show ∀ W : World, Calls Try.prog 13 #[.int .u32 (m : Nat), .int .i64 no] W fun e w' => e = .returned (.bool has) ∧ W = w' from fun W => by rw [hhas]; exact has_any m no W hm)
  have HC15 := Lib.hid (show ∀ w', Below w1.heap.size w1 w' → w'.cell? ⟨G + 1, 15, none⟩ = some (.int .u16 (vi : Nat)) from fun w' hb => by rw [(hf1.below hb hf1.lt).cell]; exact a15)
  have HC0 := Lib.hid (show ∀ w', Below w1.heap.size w1 w' → w'.cell? ⟨G, 0, none⟩ = some (.int .u16 (pv : Nat)) from fun w' hb => by rw [(hp1.below hb hp1.lt).cell]; rfl)
  have HC2 := Lib.hid (show ∀ w', Below w1.heap.size w1 w' → w'.cell? ⟨G, 2, none⟩ = some (.bool fi) from fun w' hb => by rw [(hp1.below hb hp1.lt).cell]; rfl)
  have HV := Lib.hid (show ((own = true ∧ vid = vi) ∨ (own = false ∧ vid = pv)) from by
    rw [hvid, hown]
    cases ownB tg vi
    · exact .inr ⟨rfl, rfl⟩
    · exact .inl ⟨rfl, rfl⟩)
  have RC := Lib.hid (show C = if acc = false then 1 else if found = false then 2 else if fi = true ∧ has = false then 3 else 0 by rw [hC]; unfold ingC; rw [hacc])
  clear hC hw1 hb1 hp1 hf1 hown hvid hhas hacc hget hG a12 a15 hsz hm
  have key : ∀ (c : Int) (v : Nat) (W : World), c = C → v = ingV vid c → Below w1.heap.size w1 W → Ending.returned (.tuple #[.int .u16 (v : Nat), .int .i64 c]) = .returned (.tuple #[.int .u16 (ingV vid C : Nat), .int .i64 C]) ∧ Below w.heap.size w W := fun c v W h1 h2 h3 => by
    subst h1
    subst h2
    exact ⟨rfl, HB1.out.trans (h3.mono HB1.out.size)⟩
  have KEY := Lib.hid key
  clear key
  go_enter Try.func14, Try.ntmps14
  go_upto_region 1 with fail
  rw [← HW.out, ← HG.out]
  refine wp_region_quiet (C := Below w1.heap.size w1) (by kernel_rfl) (by kernel_rfl) (Below.refl _ _).drew ?_
  (refine q_val (v := .agg arr) (by rfl) (fun w hC => run_loadVar_of 46 _ rfl (G + 1) rfl 46 arr _ (HF.out w hC) Try.underlying46 rfl SZ.out) ?_; (try simp only [Act.put, List.getElem_toArray, List.getElem_cons_succ, List.getElem_cons_zero, List.setIfInBounds_toArray, List.set_cons_zero, List.set_cons_succ]))
  (refine q_call (v := .bool own) 32 #[.agg arr] (by rfl) (fun w hC => by go_simp) (fun w hC => calls_in (OWN.out w) (fun w' hb => hC.trans (hb.mono hC.size))) ?_; (try simp only [Act.put, List.getElem_toArray, List.getElem_cons_succ, List.getElem_cons_zero, List.setIfInBounds_toArray, List.set_cons_zero, List.set_cons_succ]))
  (refine q_val (v := ?_) (by rfl) ?_ ?_; rotate_left; (· (intro w hC; go_simp; try with_reducible rfl)); (try simp only [Act.put, List.getElem_toArray, List.getElem_cons_succ, List.getElem_cons_zero, List.setIfInBounds_toArray, List.set_cons_zero, List.set_cons_succ]))
  (refine q_val (v := ?_) (by rfl) ?_ ?_; rotate_left; (· (intro w hC; have q := HC0.out w hC; go_simp; try with_reducible rfl)); (try simp only [Act.put, List.getElem_toArray, List.getElem_cons_succ, List.getElem_cons_zero, List.setIfInBounds_toArray, List.set_cons_zero, List.set_cons_succ]))
  (refine q_val (v := ?_) (by rfl) ?_ ?_; rotate_left; (· (intro w hC; go_simp; try with_reducible rfl)); (try simp only [Act.put, List.getElem_toArray, List.getElem_cons_succ, List.getElem_cons_zero, List.setIfInBounds_toArray, List.set_cons_zero, List.set_cons_succ]))
  (refine q_val (v := ?_) (by rfl) ?_ ?_; rotate_left; (· (intro w hC; go_simp; try with_reducible rfl)); (try simp only [Act.put, List.getElem_toArray, List.getElem_cons_succ, List.getElem_cons_zero, List.setIfInBounds_toArray, List.set_cons_zero, List.set_cons_succ]))
  refine wpQuiet_nil ?_
  intro w5 hC5
  have K5 := Lib.hid hC5
  clear hC5
  have HXX := Lib.hid (show ∀ (W6 W7 : World) , Below w5.heap.size w5 W6 → W7 = W6.alloc (.cells #[.int .u16 (xv : Nat), .int .u32 (m : Nat), .int .u32 (u : Nat)] 37) → Below w1.heap.size w1 W7 ∧ Blk W7 W6.heap.size #[.int .u16 (xv : Nat), .int .u32 (m : Nat), .int .u32 (u : Nat)] 37 from fun W6 W7 h1 h2 => by
    rw [h2]
    exact ⟨(K5.out.trans (h1.mono K5.out.size)).alloc (Nat.le_trans K5.out.size h1.size) _, Blk.new _ _ _⟩)
  rcases HV.out with ⟨ho, hv⟩ | ⟨ho, hv⟩
  all_goals
    subst ho
    subst hv
    have q15 := HC15.out w5 K5.out
    go_upto_region 4 with fail
    clear q15
    go_upto_region 5 with (go_at_call 12; refine (HGET.out w5 (HB1.out.trans (K5.out.mono HB1.out.size))).mono ?_; rintro e w6 ⟨rfl, hb6⟩)
    obtain ⟨W7, hW7⟩ : ∃ W7, W7 = w6.alloc (.cells #[.int .u16 (xv : Nat), .int .u32 (m : Nat), .int .u32 (u : Nat)] 37) := ⟨_, rfl⟩
    obtain ⟨b7, k7⟩ := HXX.out w6 W7 hb6 hW7
    rw [← hW7]
    obtain ⟨g7, hg7⟩ : ∃ g7, g7 = w6.heap.size := ⟨_, rfl⟩
    rw [← hg7] at k7 ⊢
    clear hW7 hb6 hg7
    have B7 := Lib.hid b7
    have K7 := Lib.hid k7
    have q0 := HC0.out W7 b7
    have q1 : W7.cell? ⟨G, 1, none⟩ = some (.int .i64 ac) := by rw [(HP.out W7 b7).cell]; rfl
    have q2 := HC2.out W7 b7
    clear b7 k7
    cases acc with
    | false =>
      have R := Lib.hid (show (1 : Int) = C by rw [RC.out]; rfl)
      clear RC
      go_wp2_with (go_at_call 33; refine (ACC.out _).mono ?_; rintro e w8 ⟨rfl, hb8⟩; have B8 := Lib.hid hb8; clear hb8)
      go_ret2
      exact KEY.out 1 0 _ R.out rfl (B7.out.trans (B8.out.mono B7.out.size))
    | true =>
      go_upto_region 7 with (go_at_call 33; refine (ACC.out _).mono ?_; rintro e w8 ⟨rfl, hb8⟩)
      have B8 := Lib.hid (B7.out.trans (hb8.mono B7.out.size))
      have q21 : w8.cell? ⟨G, 2, none⟩ = some (.bool fi) := HC2.out w8 B8.out
      have q22 : w8.cell? ⟨g7, 1, none⟩ = some (.int .u32 (m : Nat)) := by rw [(K7.out.below hb8 K7.out.lt).cell]; rfl
      clear hb8 q0 q1 q2
      cases found with
      | false =>
        have R := Lib.hid (show (2 : Int) = C by rw [RC.out]; rfl)
        clear RC
        go_wp2_with fail
        go_ret2
        exact KEY.out 2 0 _ R.out rfl B8.out
      | true =>
        cases fi with
        | false =>
          have R := Lib.hid (show (0 : Int) = C by rw [RC.out]; rfl)
          clear RC
          go_wp2_with fail
          go_ret2
          exact KEY.out 0 _ _ R.out rfl B8.out
        | true =>
          cases has with
          | false =>
            have R := Lib.hid (show (3 : Int) = C by rw [RC.out]; rfl)
            clear RC
            go_wp2_with (go_at_call 13; refine (HAS.out _).mono ?_; rintro e w9 ⟨rfl, rfl⟩)
            go_ret2
            exact KEY.out 3 0 _ R.out rfl B8.out
          | true =>
            have R := Lib.hid (show (0 : Int) = C by rw [RC.out]; rfl)
            clear RC
            go_wp2_with (go_at_call 13; refine (HAS.out _).mono ?_; rintro e w9 ⟨rfl, rfl⟩)
            go_ret2
            exact KEY.out 0 _ _ R.out rfl B8.out
end Go.Proofs.Ytpjfpcebjneblaa
