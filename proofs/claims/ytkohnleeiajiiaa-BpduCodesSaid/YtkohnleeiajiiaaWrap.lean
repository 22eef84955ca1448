/- bpdu.Wrap. -/
import Derived.Test.YtkohnleeiajiiaaOpen5
import Derived.Test.YtkohnleeiajiiaaBackP
import Derived.Deep.RegionHeld3
namespace Go.Proofs.Ytkohnleeiajiiaa
open Go.RowKit
set_option linter.unusedSimpArgs false
set_option linter.unusedVariables false

/-- The source, and the result. -/
structure Wc (w0 : World) (g : Nat) (m : Nat → Nat) (w : World) : Prop where
  src : Blk w g (macA m) 39
  res : Blk w (g + 2) nil18 41
  below : Below w0.heap.size w0 w
  at0 : w0.heap.size = g
theorem Wc.drew {w0 w : World} {g : Nat} {m : Nat → Nat} (h : Wc w0 g m w) : Wc w0 g m w.drew := ⟨h.src.drew, h.res.drew, h.below.drew, h.at0⟩
theorem Wc.next {w0 w w' : World} {g : Nat} {m : Nat → Nat} (h : Wc w0 g m w) (hb : Below w.heap.size w w') : Wc w0 g m w' := ⟨h.src.below hb h.src.lt, h.res.below hb h.res.lt, h.below.trans (hb.mono h.below.size), h.at0⟩

theorem nil18_one : nil18.all (·.oneCell') = true := by kernel_rfl
theorem ret_wrap {a a' : Array Value} {b b' : Int} (h : a = a') (g : b = b') : Ending.returned (.tuple #[.agg a, .int .i64 b]) = .returned (.tuple #[.agg a', .int .i64 b']) := by rw [h, g]

/-- What is answered. -/
def wrA (m : Nat → Nat) (p : Pd) : Array Value := if goodP p = true then frA gF m false 0 false 0 (rawS p).size (rawS p) else nil18

theorem pencode_of {p : Pd} {arr : Array Value} (h : arr = pdA p) (w : World) (hok : p.ok) : Calls Try.prog 11 #[.agg arr] w fun e w' => e = .returned (.tuple #[.string (encP p), .int .i64 (encE p)]) ∧ Below w.heap.size w w' := by subst h; exact pencode_any p w hok

theorem raw_size (p : Pd) (h : goodP p = true) : (rawS p).size ≤ 39 := by
  unfold rawS
  split
  · rw [hdS_size]; omega
  · rw [app_size, app_size, hdS_size, accS_size]
    rcases good_kind h with h | h | h
    · rw [h.1]; decide
    · rw [h.1]; decide
    · rw [h]; decide

set_option maxRecDepth 100000 in
set_option maxHeartbeats 4000000 in
theorem wrap_any (m : Nat → Nat) (p : Pd) (w : World) (hok : p.ok) :
    Calls Try.prog 13 #[mac m, pdV p] w fun e w' => e = .returned (.tuple #[.agg (wrA m p), .int .i64 (encE p)]) ∧ Below w.heap.size w w' := by
  obtain ⟨arr, harr⟩ : ∃ arr, arr = pdA p := ⟨_, rfl⟩
  have hsz := Lib.hid (show (Try.prog.info? 31).map (·.size) = some arr.size by rw [harr]; exact size31)
  show Calls Try.prog 13 #[mac m, .agg (pdA p)] w _
  rw [← harr]
  have HA := Lib.hid harr
  have OK := Lib.hid hok
  have h39 := Lib.hid size25
  have h41 := Lib.hid size52
  clear harr hok
  obtain ⟨s, hs⟩ : ∃ s, s = encP p := ⟨_, rfl⟩
  obtain ⟨E, hE⟩ : ∃ E, E = encE p := ⟨_, rfl⟩
  have HS := Lib.hid hs
  have HE := Lib.hid hE
  clear hs hE
  obtain ⟨W, hW⟩ : ∃ W, W = ((w.alloc (Obj.cells (macA m) 39)).alloc (Obj.cells arr 31)).alloc (Obj.cells nil18 41) := ⟨_, rfl⟩
  have b1 : Blk W w.heap.size (macA m) 39 := by rw [hW]; exact ((Blk.new _ _ _).alloc _).alloc _
  have b2 : Blk W (w.heap.size + 1) arr 31 := by rw [hW]; have := (Blk.new (w.alloc (Obj.cells (macA m) 39)) arr 31).alloc (Obj.cells nil18 41); simpa using this
  have b3 : Blk W (w.heap.size + 2) nil18 41 := by rw [hW]; have := Blk.new ((w.alloc (Obj.cells (macA m) 39)).alloc (Obj.cells arr 31)) nil18 41; simpa using this
  have bl : Below w.heap.size w W := by rw [hW]; exact (((Below.refl _ _).alloc (Nat.le_refl _) _).alloc (by simp) _).alloc (by simp; omega) _
  have WC := Lib.hid (show Wc w w.heap.size m W from ⟨b1, b3, bl, rfl⟩)
  have B2 := Lib.hid b2
  have HW := Lib.hid hW
  clear b1 b2 b3 bl hW
  go_enter Try.func13, Try.ntmps13
  go_upto_region 1 with fail
  simp only [nil18, macA] at HW
  rw [← HW.out]
  clear HW
  generalize hg : w.heap.size = g at *
  have HG := Lib.hid hg
  clear hg
  go_upto_region 2 with (first
    | (refine wpList_load_row rfl 31 _ rfl (g + 1) rfl 31 _ (0, 0) _ B2.out Try.underlying31 rfl hsz.out ?_)
    | (go_at_call 11; refine (pencode_of HA.out _ OK.out).mono ?_; rintro e w1 ⟨rfl, hb⟩; rw [← HS.out, ← HE.out]
       have C := Lib.hid (WC.out.next hb)))
  clear hb WC B2
  by_cases hgd : goodP p = true
  · have e0 : E = 0 := by rw [HE.out]; unfold encE; rw [if_pos hgd]
    have S0 := Lib.hid (show rawS p = s by rw [HS.out]; unfold encP; rw [if_pos hgd])
    have hl : s.size ≤ 39 := by rw [← S0.out]; exact raw_size p hgd
    have hli : (s.size : Int) ≤ 39 := by omega
    have KW := Lib.hid (show IntKind.u16.wrap (s.size : Int) = (s.size : Int) by rw [IntKind.wrap_u16]; omega)
    have KM := Lib.hid (show (s.size : Int) % 65536 = (s.size : Int) by omega)
    have WA := Lib.hid (show frA gF m false 0 false 0 s.size s = wrA m p by unfold wrA; rw [if_pos hgd, S0.out])
    have EE := Lib.hid (show (0 : Int) = encE p by unfold encE; rw [if_pos hgd])
    clear hgd hl
    subst e0
    go_upto_region 4 with fail
    refine wp_region_held_drew (S := fun w' => Blk w' g (macA m) 39) (by kernel_rfl) C.out.src.drew (fun hHeld => ?_)
    have C1 := C.out.drew
    clear C
    (refine wpAnyH_take (i := 1) (v := mac m) rfl (by kernel_rfl) (by kernel_rfl) (by kernel_rfl) (fun _ _ _ h => h) (Or.inl ⟨by rfl, fun w hSw => run_loadVar_of 39 _ rfl g rfl 39 (macA m) _ hSw Try.underlying39 rfl h39.out⟩) hHeld ?_; (try simp only [Act.put, List.getElem_toArray, List.getElem_cons_succ, List.getElem_cons_zero, List.setIfInBounds_toArray, List.set_cons_zero, List.set_cons_succ]))
    (refine wpAnyH_take (i := 2) (v := ?_) rfl (by kernel_rfl) (by kernel_rfl) (by kernel_rfl) (fun _ _ _ h => h) (Or.inl ⟨by rfl, ?_⟩) (by assumption) ?_; rotate_left; (· (intro w hSw; go_simp; try with_reducible rfl)); (try simp only [Act.put, List.getElem_toArray, List.getElem_cons_succ, List.getElem_cons_zero, List.setIfInBounds_toArray, List.set_cons_zero, List.set_cons_succ]))
    (refine wpAnyH_take (i := 3) (v := ?_) rfl (by kernel_rfl) (by kernel_rfl) (by kernel_rfl) (fun _ _ _ h => h) (Or.inl ⟨by rfl, ?_⟩) (by assumption) ?_; rotate_left; (· (intro w hSw; go_simp; try with_reducible rfl)); (try simp only [Act.put, List.getElem_toArray, List.getElem_cons_succ, List.getElem_cons_zero, List.setIfInBounds_toArray, List.set_cons_zero, List.set_cons_succ]))
    (refine wpAnyH_take (i := 4) (v := ?_) rfl (by kernel_rfl) (by kernel_rfl) (by kernel_rfl) (fun _ _ _ h => h) (Or.inl ⟨by rfl, ?_⟩) (by assumption) ?_; rotate_left; (· (intro w hSw; have e := KW.out; have e2 := KM.out; go_simp; try with_reducible rfl)); (try simp only [Act.put, List.getElem_toArray, List.getElem_cons_succ, List.getElem_cons_zero, List.setIfInBounds_toArray, List.set_cons_zero, List.set_cons_succ]))
    (refine wpAnyH_take (i := 5) (v := ?_) rfl (by kernel_rfl) (by kernel_rfl) (by kernel_rfl) (fun _ _ _ h => h) (Or.inl ⟨by rfl, ?_⟩) (by assumption) ?_; rotate_left; (· (intro w hSw; go_simp; try with_reducible rfl)); (try simp only [Act.put, List.getElem_toArray, List.getElem_cons_succ, List.getElem_cons_zero, List.setIfInBounds_toArray, List.set_cons_zero, List.set_cons_succ]))
    refine wpAnyH_ready (rs := [0]) (by kernel_rfl) (by simp) ?_
    refine AllReadyH.cons rfl (fun K hK => ?_) AllReadyH.nil
    go_simp
    refine (group_any _).mono ?_
    rintro e w2 ⟨rfl, hb⟩
    dsimp only
    have C2 := C1.next hb
    refine hK.out _ _ C2.src (fun hHeld2 => ?_)
    clear hK K hHeld hb C1
    (try simp only [Act.put, List.getElem_toArray, List.getElem_cons_succ, List.getElem_cons_zero, List.setIfInBounds_toArray, List.set_cons_zero, List.set_cons_succ])
    (refine wpAnyH_take (i := 6) (v := .agg (frA gF m false 0 false 0 s.size s)) rfl (by kernel_rfl) (by kernel_rfl) (by kernel_rfl) (fun _ _ _ h => h) (Or.inl ⟨by rfl, fun w hSw => by go_simp; try with_reducible rfl⟩) hHeld2 ?_; (try simp only [Act.put, List.getElem_toArray, List.getElem_cons_succ, List.getElem_cons_zero, List.setIfInBounds_toArray, List.set_cons_zero, List.set_cons_succ]))
    refine wpAnyH_ready (rs := [7]) (by kernel_rfl) (by simp) ?_
    refine AllReadyH.cons rfl (fun K hK => ?_) AllReadyH.nil
    rw [if_pos (by rfl)]
    refine wp_store_row 41 _ _ rfl (g + 2) (frA gF m false 0 false 0 s.size s) rfl rfl 41 nil18 C2.res h41.out rfl (frA_one _ _ _ _ _ _ _ _) ?_
    have hgw : w.heap.size ≤ g + 2 := by have := C2.at0; omega
    have R := Lib.hid (C2.res.row (frA gF m false 0 false 0 s.size s))
    have HB := Lib.hid (below_setRow C2.below hgw (frA gF m false 0 false 0 s.size s))
    refine hK.out _ _ (C2.src.rowOther (k := g + 2) (by omega) (frA gF m false 0 false 0 s.size s)) (fun hHeld3 => ?_)
    clear hK K hHeld2 C2
    (try simp only [Act.put, List.getElem_toArray, List.getElem_cons_succ, List.getElem_cons_zero, List.setIfInBounds_toArray, List.set_cons_zero, List.set_cons_succ])
    generalize w2.setRow (g + 2) (frA gF m false 0 false 0 s.size s) = w3 at *
    (refine wpAnyH_take (i := 8) (v := ?_) rfl (by kernel_rfl) (by kernel_rfl) (by kernel_rfl) (fun _ _ _ h => h) (Or.inl ⟨by rfl, ?_⟩) (by assumption) ?_; rotate_left; (· (intro w hSw; go_simp; try with_reducible rfl)); (try simp only [Act.put, List.getElem_toArray, List.getElem_cons_succ, List.getElem_cons_zero, List.setIfInBounds_toArray, List.set_cons_zero, List.set_cons_succ]))
    refine wpAnyH_done (by kernel_rfl) ?_ _
    clear hHeld3
    go_wp2_with fail
    exact bodyPost_ret (v := .tuple #[.agg (frA gF m false 0 false 0 s.size s), .int .i64 0]) (results_row_tmp Try.results13 _ _ (g + 2) 41 _ _ _ rfl rfl R.out Try.underlying41 rfl h41.out) rfl ⟨ret_wrap WA.out EE.out, HB.out⟩
  · have e8 : E = 8 := by rw [HE.out]; unfold encE; rw [if_neg hgd]
    have WA := Lib.hid (show nil18 = wrA m p by unfold wrA; rw [if_neg hgd])
    have EE := Lib.hid (show (8 : Int) = encE p by unfold encE; rw [if_neg hgd])
    have HB := Lib.hid (below_setRow (g := g + 2) C.out.below (by have := C.out.at0; omega) nil18)
    have h1 := Lib.hid nil18_one
    clear hgd
    subst e8
    go_wp2_with (refine wpList_store_row rfl 41 _ _ rfl (g + 2) nil18 rfl rfl 41 nil18 C.out.res h41.out rfl h1.out ?_)
    exact bodyPost_ret (v := .tuple #[.agg nil18, .int .i64 8]) (results_row_tmp Try.results13 _ _ (g + 2) 41 _ _ _ rfl rfl (C.out.res.row _) Try.underlying41 rfl h41.out) rfl ⟨ret_wrap WA.out EE.out, HB.out⟩
end Go.Proofs.Ytkohnleeiajiiaa
