/- PortsHold, walked: for every two sets and every port it returns true. -/
import Derived.Test.YtjipbdljljhijaaHoldM
import Derived.Deep.RegionHeld3
namespace Go.Proofs.Ytjipbdljljhijaa
open Go.RowKit Go.Shelf
set_option linter.unusedSimpArgs false
set_option linter.unusedVariables false
attribute [local go_sem] Oper.semAt_some
attribute [local irreducible] wpQuiet

/-- What is known behind the range. -/
structure Hc (w0 : World) (l : List (Nat × Array Value × TypeId)) (D : Nat) (W : World) : Prop where
  kn : Kn w0 l W
  dfr : W.heap[D]? = some (.deferred (some []))
theorem Hc.drew {w0 w : World} {l : List (Nat × Array Value × TypeId)} {D : Nat} (h : Hc w0 l D w) : Hc w0 l D w.drew := ⟨h.kn.drew, h.dfr⟩
theorem Hc.next {w0 w w' : World} {l : List (Nat × Array Value × TypeId)} {D : Nat} (h : Hc w0 l D w) (hb : Below w.heap.size w w') : Hc w0 l D w' := ⟨h.kn.next hb, (hb.block D (Array.getElem?_eq_some_iff.1 h.dfr).1).trans h.dfr⟩
theorem Kn.other {w0 w : World} {l : List (Nat × Array Value × TypeId)} (h : Kn w0 l w) {a : Addr} (hd : ∀ x ∈ l, x.1 ≠ a.block) (h0 : w0.heap.size ≤ a.block) (v : Value) : Kn w0 l (w.setCell a v) :=
  ⟨fun x hx => (h.all x hx).other (fun q => hd x hx q.symm) v, h.below.setCell h0 _⟩
theorem calls_same {P : Program} {f : FuncId} {args : Array Value} {w : World} {v : Value} (h : Calls P f args w fun e w' => e = .returned v ∧ w = w') : Calls P f args w fun e w' => e = .returned v ∧ Below w.heap.size w w' :=
  h.mono fun _ _ ⟨he, hw⟩ => ⟨he, by rw [← hw]; exact Below.refl _ _⟩

set_option maxRecDepth 100000 in
set_option maxHeartbeats 20000000 in
theorem hold_walk (s t : Nat) (p : Int) (w : World) (hs : s < 4294967296) (ht : t < 4294967296) (hsp : ∀ w : World, Calls Try.prog 7 #[] w fun e w' => e = .returned (.bool true) ∧ Below w.heap.size w w') :
    Calls Try.prog 3 #[.int .u32 (s : Nat), .int .u32 (t : Nat), .int .i64 p] w fun e w' => e = .returned (.bool true) ∧ Below w.heap.size w w' := by
  refine calls_marks Try.func3 rfl ?_
  simp only [Try.ntmps3, List.size_toArray, List.length_cons, List.length_nil, Nat.reduceAdd, Nat.reduceSub, Array.replicate_succ, Array.replicate_zero, List.push_toArray, List.append_toArray, List.nil_append, List.cons_append]
  have K0 := Lib.hid (show Kn w [(w.heap.size + 1, #[.bool false], 4), (w.heap.size, #[.int .u32 (s : Nat)], 22)] ((w.alloc (.cells #[.int .u32 (s : Nat)] 22)).alloc (.cells #[.bool false] 4)) by
    have := ((Kn.nil w).alloc #[.int .u32 (s : Nat)] 22).alloc #[.bool false] 4; simpa using this)
  go_upto_region 3 with (go_at_call 7; refine (hsp _).mono ?_; rintro e w1 ⟨rfl, hb1⟩)
  have K1 := Lib.hid (K0.out.next hb1)
  clear K0 hb1
  obtain ⟨g, hg⟩ : ∃ g, w.heap.size = g := ⟨_, rfl⟩
  have HG := Lib.hid hg
  simp only [hg] at K1 ⊢
  clear hg
  have cs := (K1.out.at 1 rfl).cell 0
  simp only [List.getElem?_toArray, List.getElem?_cons_zero] at cs
  go_wp2_with (go_at_call 8; refine (all_any s _).mono ?_; rintro e w' ⟨rfl, rfl⟩)
  clear cs
  obtain ⟨W0, hW0⟩ : ∃ W0, W0 = ((w1.alloc (.cells #[.int .i64 0] 3)).alloc (.cells #[.int .i64 0] 3)).alloc (.cells #[.int .u32 (s : Nat)] 24) := ⟨_, rfl⟩
  have k0 : Kn w [(w1.heap.size + 2, #[.int .u32 (s : Nat)], 24), (w1.heap.size + 1, #[.int .i64 0], 3), (w1.heap.size, #[.int .i64 0], 3), (g + 1, #[.bool false], 4), (g, #[.int .u32 (s : Nat)], 22)] W0 := by
    rw [hW0]; have := ((K1.out.alloc #[.int .i64 0] 3).alloc #[.int .i64 0] 3).alloc #[.int .u32 (s : Nat)] 24; simpa using this
  have hz0 : W0.heap.size = w1.heap.size + 3 := by rw [hW0]; simp
  have hgh : g + 1 < w1.heap.size := (K1.out.at 0 rfl).lt
  have hgw : w.heap.size ≤ g := by rw [HG.out]; exact Nat.le_refl _
  simp only [World.size_alloc, Nat.add_assoc, Nat.reduceAdd] at hW0 ⊢
  rw [← hW0]
  clear hW0 K1
  obtain ⟨h, hh⟩ : ∃ h, w1.heap.size = h := ⟨_, rfl⟩
  simp only [hh] at k0 hz0 hgh ⊢
  clear hh
  refine wp_range 25 #[.pointer (some ⟨h + 2, 0, none⟩)] (h + 2) rfl (enters_of Try.func25 (by kernel_rfl) rfl) (fun p : Int => #[.int .i64 p]) _ _ 16 (all_stops s (h + 2) W0 hs (k0.at 0 rfl)) (fun _ => rfl)
    (fun pre W => okL s pre ∧ Kn w [(h + 1, #[.int .i64 (lastL pre)], 3), (h, #[.int .i64 (pre.length : Nat)], 3), (g + 1, #[.bool false], 4), (g, #[.int .u32 (s : Nat)], 22)] W) (fun c pre W => c = .ret ∧ ¬ okL s pre)
    (fun p W W' row h2 hg2 hr => ⟨h2.1, kn_own (by omega) (fun pre : List Int => [(h + 1, #[.int .i64 (lastL pre)], 3), (h, #[.int .i64 (pre.length : Nat)], 3), (g + 1, #[.bool false], 4), (g, #[.int .u32 (s : Nat)], 22)]) p W W' row h2.2 hg2 hr⟩) (fun c p W W' row h2 _ _ => h2)
    ⟨⟨List.Pairwise.nil, fun x hx => (by cases hx)⟩, k0.sub (fun x hx => by simp only [List.mem_cons, List.not_mem_nil, or_false] at hx ⊢; rcases hx with h | h | h | h <;> simp [h, lastL])⟩
    (fun x => { tmps := #[.int .u32 (s : Nat), .int .u32 (t : Nat), .int .i64 p, .pointer (some ⟨g, 0, none⟩), undef, undef, .pointer (some ⟨g + 1, 0, none⟩), .int .u32 (s : Nat), .int .u32 (t : Nat), .pointer (some ⟨h, 0, none⟩), .bool true, .pointer (some ⟨h + 1, 0, none⟩), .int .i64 x, undef, undef, .bool true, .bool false, .int .u32 (s : Nat), .int .u32 (t : Nat), .int .u32 (s : Nat), .func (.func 25) #[] #[.pointer (some ⟨h + 2, 0, none⟩)], .int .i64 x, undef, undef, undef, undef, undef, undef, undef, undef, undef, undef, undef, undef, undef, undef, undef, undef, undef, undef, undef, undef, undef, undef, undef, undef, undef, undef, undef, undef, undef, undef, undef, undef, undef, undef, undef, undef, undef, undef, undef, undef, undef, undef, undef, undef, undef, undef, undef, undef, undef, undef, undef, undef, undef, undef, undef, undef, undef, undef, undef, undef, undef, undef, undef, undef, undef, undef, undef, undef, undef, undef, undef, undef, undef, undef, undef, undef, undef, undef, undef, undef, undef, undef, undef, undef, undef, undef, undef, undef, undef, undef, undef, undef, undef, undef, undef, undef, undef, undef, undef], defers := [] }) ?assign ?body ?done ?stop
  case assign =>
    intro l x W K hK
    gi_wp2
    simpa using hK
  case body =>
    rintro l pre x W ⟨hp, hI⟩ hN
    have c0 := (hI.at 3 rfl).cell 0
    have c1 := (hI.at 0 rfl).cell 0
    have c2 := (hI.at 1 rfl).cell 0
    have c3 := (hI.at 2 rfl).cell 0
    simp only [List.getElem?_toArray, List.getElem?_cons_zero] at c0 c1 c2 c3
    have f1 := (hI.at 0 rfl).free 0
    have f2 := (hI.at 1 rfl).free 0
    have f3 := (hI.at 2 rfl).free 0
    have HP := Lib.hid hp
    have HI := Lib.hid hI
    clear hp hI
    have hl : (pre.length : Int) < 16 := by omega
    by_cases hx : x ≤ lastL pre
    · have e1 : decide (x ≤ lastL pre) = true := by simpa using hx
      have HX := Lib.hid hx
      clear hx
      gi_wp2
      refine ⟨trivial, ?_⟩
      gi_wp2
      exact ⟨KeepsOthers.setCell _ _ _, rfl, okL_not (.inl HX.out)⟩
    · have e1 : decide (x ≤ lastL pre) = false := by simpa using hx
      have HX := Lib.hid hx
      clear hx
      cases hq : hasB s x with
      | false =>
        have HQ := Lib.hid hq
        clear hq
        gi_wp2_with (refine ⟨trivial, ?_⟩; gi_at_call 9; refine (CallsIn.inRound l (callsIn_wide.2 (lhas_any s _ _ hs))).mono ?_; rintro e w' ⟨rfl, rfl⟩; rw [HQ.out])
        exact ⟨KeepsOthers.setCell _ _ _, rfl, okL_not (.inr HQ.out)⟩
      | true =>
        have HQ := Lib.hid hq
        clear hq
        gi_wp2_with (refine ⟨trivial, ?_⟩; gi_at_call 9; refine (CallsIn.inRound l (callsIn_wide.2 (lhas_any s _ _ hs))).mono ?_; rintro e w' ⟨rfl, rfl⟩; rw [HQ.out])
        refine ⟨(KeepsOthers.setCell _ _ _).trans (KeepsOthers.setCell _ _ _), (keepsAt_setCell _ _ (by simp) _).trans (keepsAt_setCell _ _ (by simp) _), okL_snoc HP.out (by have := HX.out; omega) HQ.out, ?_⟩
        have k1 := HI.out.upd 0 rfl (fun y hy => by simp only [List.eraseIdx_cons_zero, List.eraseIdx_cons_succ, List.mem_cons, List.not_mem_nil, or_false] at hy; rcases hy with rfl | rfl | rfl <;> (intro e; first | (dsimp only at e; omega) | omega)) (by omega) 0 (.int .i64 x)
        simp only [List.set_cons_zero, List.setIfInBounds_toArray] at k1
        have k2 := k1.upd 1 rfl (fun y hy => by simp only [List.eraseIdx_cons_zero, List.eraseIdx_cons_succ, List.mem_cons, List.not_mem_nil, or_false] at hy; rcases hy with rfl | rfl | rfl <;> (intro e; first | (dsimp only at e; omega) | omega)) (by omega) 0 (.int .i64 ((pre.length : Int) + 1))
        simp only [List.set_cons_zero, List.set_cons_succ, List.setIfInBounds_toArray] at k2
        show Kn w [(h + 1, #[.int .i64 (lastL (pre ++ [x]))], 3), (h, #[.int .i64 ((pre ++ [x]).length : Nat)], 3), (g + 1, #[.bool false], 4), (g, #[.int .u32 (s : Nat)], 22)] _
        rw [lastL_snoc, List.length_append]
        simpa using k2
  case done =>
    rintro D xs W hD rfl ⟨hp, hI⟩ hK
    have HC0 := Lib.hid (show Hc w [(h + 1, #[.int .i64 (lastL (portsL s))], 3), (h, #[.int .i64 ((portsL s).length : Nat)], 3), (g + 1, #[.bool false], 4), (g, #[.int .u32 (s : Nat)], 22)] D W from ⟨hI, hK⟩)
    have HDW := Lib.hid hD
    clear hp hI hK hD
    dsimp only
    go_upto_region 14 with fail
    go_loopw [10, 13, 14] (fun b c q wr => ∃ k : Nat, k ≤ 42 ∧ q = .int .i64 ((k : Int) - 1) ∧ c = .int .i64 (cntL s k : Nat) ∧ (∃ bb, b = .bool bb ∧ (bb = true ↔ ∀ j : Nat, j < k → hasB s ((j : Int) - 1) = true → hasB t ((j : Int) - 1) = true)) ∧ Hc w [(h + 1, #[.int .i64 (lastL (portsL s))], 3), (h, #[.int .i64 ((portsL s).length : Nat)], 3), (g + 1, #[.bool false], 4), (g, #[.int .u32 (s : Nat)], 22)] D wr) (fun _ _ q _ => (42 - intOf q).toNat)
    case atStart => exact ⟨0, by omega, rfl, rfl, ⟨true, rfl, ⟨fun _ j hj => absurd hj (Nat.not_lt_zero _), fun _ => rfl⟩⟩, HC0.out⟩
    case round =>
      obtain ⟨k, hk, rfl, rfl, ⟨bb, rfl, hbb⟩, hc⟩ := hrel
      have HBB := Lib.hid hbb
      have HC := Lib.hid hc
      clear hbb hc HC0
      have hcl := cntL_le s k
      by_cases hlt : k < 42
      · have hq1 : (k : Int) - 1 ≤ 40 := by omega
        go_wp2_with fail
        have HWL := Lib.hid (withS_lt s p hs)
        have HOL := Lib.hid (withoutS_lt s p hs)
        cases hb : hasB s ((k : Int) - 1) with
        | true =>
          have HB := Lib.hid hb
          clear hb
          by_cases he : (k : Int) - 1 = p
          · have HE := Lib.hid (show decide ((k : Int) - 1 = p) = true by simpa using he)
            have HNE := Lib.hid (show decide ((k : Int) - 1 ≠ p) = false by simpa using he)
            have NE := Lib.hid (show ((k : Int) - 1 != p) = false by simpa using he)
            obtain ⟨P, hP⟩ : ∃ P, isPort p = P := ⟨_, rfl⟩
            have HPORT := Lib.hid hP
            clear he hP
            have HW := Lib.hid (show hasB (withS s p) ((k : Int) - 1) = true by rw [has_withS, HB.out, HE.out, HPORT.out]; rfl)
            have HO := Lib.hid (show hasB (withoutS s p) ((k : Int) - 1) = false by rw [has_withoutS, HB.out, HNE.out]; rfl)
            refine wp_region_quiet (C := Hc w [(h + 1, #[.int .i64 (lastL (portsL s))], 3), (h, #[.int .i64 ((portsL s).length : Nat)], 3), (g + 1, #[.bool false], 4), (g, #[.int .u32 (s : Nat)], 22)] D) (by kernel_rfl) (by kernel_rfl) HC.out.drew ?_
            (refine q_val (v := ?_) (by rfl) ?_ ?_; rotate_left; (· (intro w hC; go_simp; try with_reducible rfl)); (try simp only [Act.put, List.getElem_toArray, List.getElem_cons_succ, List.getElem_cons_zero, List.setIfInBounds_toArray, List.set_cons_zero, List.set_cons_succ]))
            (refine q_val (v := ?_) (by rfl) ?_ ?_; rotate_left; (· (intro w hC; go_simp; try with_reducible rfl)); (try simp only [Act.put, List.getElem_toArray, List.getElem_cons_succ, List.getElem_cons_zero, List.setIfInBounds_toArray, List.set_cons_zero, List.set_cons_succ]))
            (refine q_call (v := .bool true) 10 #[.int .u32 (s : Nat), .int .i64 ((k : Int) - 1)] (by rfl) (fun w hC => by go_simp; try with_reducible rfl) (fun w hC => calls_in (calls_same (by have c := has_any s ((k : Int) - 1) w hs; rw [HB.out] at c; exact c)) (fun w2 hb => hC.next hb)) ?_; (try simp only [Act.put, List.getElem_toArray, List.getElem_cons_succ, List.getElem_cons_zero, List.setIfInBounds_toArray, List.set_cons_zero, List.set_cons_succ]))
            (refine q_val (v := ?_) (by rfl) ?_ ?_; rotate_left; (· (intro w hC; have c := (hC.kn.at 3 rfl).cell 0; simp only [List.getElem?_toArray, List.getElem?_cons_zero] at c; go_simp; try with_reducible rfl)); (try simp only [Act.put, List.getElem_toArray, List.getElem_cons_succ, List.getElem_cons_zero, List.setIfInBounds_toArray, List.set_cons_zero, List.set_cons_succ]))
            (refine q_val (v := ?_) (by rfl) ?_ ?_; rotate_left; (· (intro w hC; go_simp; try with_reducible rfl)); (try simp only [Act.put, List.getElem_toArray, List.getElem_cons_succ, List.getElem_cons_zero, List.setIfInBounds_toArray, List.set_cons_zero, List.set_cons_succ]))
            (refine q_call (v := .bool true) 9 #[.int .u32 (s : Nat), .int .i64 ((k : Int) - 1)] (by rfl) (fun w hC => by go_simp; try with_reducible rfl) (fun w hC => calls_in (calls_same (by have c := lhas_any s ((k : Int) - 1) w hs; rw [HB.out] at c; exact c)) (fun w2 hb => hC.next hb)) ?_; (try simp only [Act.put, List.getElem_toArray, List.getElem_cons_succ, List.getElem_cons_zero, List.setIfInBounds_toArray, List.set_cons_zero, List.set_cons_succ]))
            (refine q_val (v := ?_) (by rfl) ?_ ?_; rotate_left; (· (intro w hC; go_simp; try with_reducible rfl)); (try simp only [Act.put, List.getElem_toArray, List.getElem_cons_succ, List.getElem_cons_zero, List.setIfInBounds_toArray, List.set_cons_zero, List.set_cons_succ]))
            (refine q_val (v := ?_) (by rfl) ?_ ?_; rotate_left; (· (intro w hC; go_simp; try with_reducible rfl)); (try simp only [Act.put, List.getElem_toArray, List.getElem_cons_succ, List.getElem_cons_zero, List.setIfInBounds_toArray, List.set_cons_zero, List.set_cons_succ]))
            (refine q_val (v := ?_) (by rfl) ?_ ?_; rotate_left; (· (intro w hC; go_simp; try with_reducible rfl)); (try simp only [Act.put, List.getElem_toArray, List.getElem_cons_succ, List.getElem_cons_zero, List.setIfInBounds_toArray, List.set_cons_zero, List.set_cons_succ]))
            (refine q_val (v := ?_) (by rfl) ?_ ?_; rotate_left; (· (intro w hC; go_simp; try with_reducible rfl)); (try simp only [Act.put, List.getElem_toArray, List.getElem_cons_succ, List.getElem_cons_zero, List.setIfInBounds_toArray, List.set_cons_zero, List.set_cons_succ]))
            (refine q_call (v := .int .u32 (withS s p : Nat)) 11 #[.int .u32 (s : Nat), .int .i64 p] (by rfl) (fun w hC => by go_simp; try with_reducible rfl) (fun w hC => calls_in (calls_same (with_any s p w hs)) (fun w2 hb => hC.next hb)) ?_; (try simp only [Act.put, List.getElem_toArray, List.getElem_cons_succ, List.getElem_cons_zero, List.setIfInBounds_toArray, List.set_cons_zero, List.set_cons_succ]))
            (refine q_val (v := ?_) (by rfl) ?_ ?_; rotate_left; (· (intro w hC; go_simp; try with_reducible rfl)); (try simp only [Act.put, List.getElem_toArray, List.getElem_cons_succ, List.getElem_cons_zero, List.setIfInBounds_toArray, List.set_cons_zero, List.set_cons_succ]))
            (refine q_call (v := .bool true) 10 #[.int .u32 ((withS s p) : Nat), .int .i64 ((k : Int) - 1)] (by rfl) (fun w hC => by go_simp; try with_reducible rfl) (fun w hC => calls_in (calls_same (by have c := has_any (withS s p) ((k : Int) - 1) w HWL.out; rw [HW.out] at c; exact c)) (fun w2 hb => hC.next hb)) ?_; (try simp only [Act.put, List.getElem_toArray, List.getElem_cons_succ, List.getElem_cons_zero, List.setIfInBounds_toArray, List.set_cons_zero, List.set_cons_succ]))
            (refine q_val (v := ?_) (by rfl) ?_ ?_; rotate_left; (· (intro w hC; have c := (hC.kn.at 3 rfl).cell 0; simp only [List.getElem?_toArray, List.getElem?_cons_zero] at c; go_simp; try with_reducible rfl)); (try simp only [Act.put, List.getElem_toArray, List.getElem_cons_succ, List.getElem_cons_zero, List.setIfInBounds_toArray, List.set_cons_zero, List.set_cons_succ]))
            (refine q_val (v := ?_) (by rfl) ?_ ?_; rotate_left; (· (intro w hC; go_simp; try with_reducible rfl)); (try simp only [Act.put, List.getElem_toArray, List.getElem_cons_succ, List.getElem_cons_zero, List.setIfInBounds_toArray, List.set_cons_zero, List.set_cons_succ]))
            (refine q_call (v := .bool true) 9 #[.int .u32 (s : Nat), .int .i64 ((k : Int) - 1)] (by rfl) (fun w hC => by go_simp; try with_reducible rfl) (fun w hC => calls_in (calls_same (by have c := lhas_any s ((k : Int) - 1) w hs; rw [HB.out] at c; exact c)) (fun w2 hb => hC.next hb)) ?_; (try simp only [Act.put, List.getElem_toArray, List.getElem_cons_succ, List.getElem_cons_zero, List.setIfInBounds_toArray, List.set_cons_zero, List.set_cons_succ]))
            (refine q_val (v := ?_) (by rfl) ?_ ?_; rotate_left; (· (intro w hC; go_simp; try with_reducible rfl)); (try simp only [Act.put, List.getElem_toArray, List.getElem_cons_succ, List.getElem_cons_zero, List.setIfInBounds_toArray, List.set_cons_zero, List.set_cons_succ]))
            (refine q_skip (by rfl) ?_; (try simp only [Act.put, List.getElem_toArray, List.getElem_cons_succ, List.getElem_cons_zero, List.setIfInBounds_toArray, List.set_cons_zero, List.set_cons_succ]))
            (refine q_skip (by rfl) ?_; (try simp only [Act.put, List.getElem_toArray, List.getElem_cons_succ, List.getElem_cons_zero, List.setIfInBounds_toArray, List.set_cons_zero, List.set_cons_succ]))
            (refine q_skip (by rfl) ?_; (try simp only [Act.put, List.getElem_toArray, List.getElem_cons_succ, List.getElem_cons_zero, List.setIfInBounds_toArray, List.set_cons_zero, List.set_cons_succ]))
            (refine q_skip (by rfl) ?_; (try simp only [Act.put, List.getElem_toArray, List.getElem_cons_succ, List.getElem_cons_zero, List.setIfInBounds_toArray, List.set_cons_zero, List.set_cons_succ]))
            (refine q_skip (by rfl) ?_; (try simp only [Act.put, List.getElem_toArray, List.getElem_cons_succ, List.getElem_cons_zero, List.setIfInBounds_toArray, List.set_cons_zero, List.set_cons_succ]))
            (refine q_skip (by rfl) ?_; (try simp only [Act.put, List.getElem_toArray, List.getElem_cons_succ, List.getElem_cons_zero, List.setIfInBounds_toArray, List.set_cons_zero, List.set_cons_succ]))
            (refine q_skip (by rfl) ?_; (try simp only [Act.put, List.getElem_toArray, List.getElem_cons_succ, List.getElem_cons_zero, List.setIfInBounds_toArray, List.set_cons_zero, List.set_cons_succ]))
            (refine q_skip (by rfl) ?_; (try simp only [Act.put, List.getElem_toArray, List.getElem_cons_succ, List.getElem_cons_zero, List.setIfInBounds_toArray, List.set_cons_zero, List.set_cons_succ]))
            (refine q_skip (by rfl) ?_; (try simp only [Act.put, List.getElem_toArray, List.getElem_cons_succ, List.getElem_cons_zero, List.setIfInBounds_toArray, List.set_cons_zero, List.set_cons_succ]))
            (refine q_skip (by rfl) ?_; (try simp only [Act.put, List.getElem_toArray, List.getElem_cons_succ, List.getElem_cons_zero, List.setIfInBounds_toArray, List.set_cons_zero, List.set_cons_succ]))
            (refine q_skip (by rfl) ?_; (try simp only [Act.put, List.getElem_toArray, List.getElem_cons_succ, List.getElem_cons_zero, List.setIfInBounds_toArray, List.set_cons_zero, List.set_cons_succ]))
            (refine q_val (v := ?_) (by rfl) ?_ ?_; rotate_left; (· (intro w hC; go_simp; try with_reducible rfl)); (try simp only [Act.put, List.getElem_toArray, List.getElem_cons_succ, List.getElem_cons_zero, List.setIfInBounds_toArray, List.set_cons_zero, List.set_cons_succ]))
            (refine q_val (v := ?_) (by rfl) ?_ ?_; rotate_left; (· (intro w hC; go_simp; try with_reducible rfl)); (try simp only [Act.put, List.getElem_toArray, List.getElem_cons_succ, List.getElem_cons_zero, List.setIfInBounds_toArray, List.set_cons_zero, List.set_cons_succ]))
            (refine q_val (v := ?_) (by rfl) ?_ ?_; rotate_left; (· (intro w hC; go_simp; try with_reducible rfl)); (try simp only [Act.put, List.getElem_toArray, List.getElem_cons_succ, List.getElem_cons_zero, List.setIfInBounds_toArray, List.set_cons_zero, List.set_cons_succ]))
            (refine q_val (v := ?_) (by rfl) ?_ ?_; rotate_left; (· (intro w hC; go_simp; try with_reducible rfl)); (try simp only [Act.put, List.getElem_toArray, List.getElem_cons_succ, List.getElem_cons_zero, List.setIfInBounds_toArray, List.set_cons_zero, List.set_cons_succ]))
            (refine q_val (v := ?_) (by rfl) ?_ ?_; rotate_left; (· (intro w hC; go_simp; try with_reducible rfl)); (try simp only [Act.put, List.getElem_toArray, List.getElem_cons_succ, List.getElem_cons_zero, List.setIfInBounds_toArray, List.set_cons_zero, List.set_cons_succ]))
            (refine q_val (v := ?_) (by rfl) ?_ ?_; rotate_left; (· (intro w hC; go_simp; try with_reducible rfl)); (try simp only [Act.put, List.getElem_toArray, List.getElem_cons_succ, List.getElem_cons_zero, List.setIfInBounds_toArray, List.set_cons_zero, List.set_cons_succ]))
            (refine q_call (v := .int .u32 (withoutS s p : Nat)) 12 #[.int .u32 (s : Nat), .int .i64 p] (by rfl) (fun w hC => by go_simp; try with_reducible rfl) (fun w hC => calls_in (calls_same (without_any s p w hs)) (fun w2 hb => hC.next hb)) ?_; (try simp only [Act.put, List.getElem_toArray, List.getElem_cons_succ, List.getElem_cons_zero, List.setIfInBounds_toArray, List.set_cons_zero, List.set_cons_succ]))
            (refine q_val (v := ?_) (by rfl) ?_ ?_; rotate_left; (· (intro w hC; go_simp; try with_reducible rfl)); (try simp only [Act.put, List.getElem_toArray, List.getElem_cons_succ, List.getElem_cons_zero, List.setIfInBounds_toArray, List.set_cons_zero, List.set_cons_succ]))
            (refine q_call (v := .bool false) 10 #[.int .u32 ((withoutS s p) : Nat), .int .i64 ((k : Int) - 1)] (by rfl) (fun w hC => by go_simp; try with_reducible rfl) (fun w hC => calls_in (calls_same (by have c := has_any (withoutS s p) ((k : Int) - 1) w HOL.out; rw [HO.out] at c; exact c)) (fun w2 hb => hC.next hb)) ?_; (try simp only [Act.put, List.getElem_toArray, List.getElem_cons_succ, List.getElem_cons_zero, List.setIfInBounds_toArray, List.set_cons_zero, List.set_cons_succ]))
            (refine q_val (v := ?_) (by rfl) ?_ ?_; rotate_left; (· (intro w hC; have c := (hC.kn.at 3 rfl).cell 0; simp only [List.getElem?_toArray, List.getElem?_cons_zero] at c; go_simp; try with_reducible rfl)); (try simp only [Act.put, List.getElem_toArray, List.getElem_cons_succ, List.getElem_cons_zero, List.setIfInBounds_toArray, List.set_cons_zero, List.set_cons_succ]))
            (refine q_val (v := ?_) (by rfl) ?_ ?_; rotate_left; (· (intro w hC; go_simp; try with_reducible rfl)); (try simp only [Act.put, List.getElem_toArray, List.getElem_cons_succ, List.getElem_cons_zero, List.setIfInBounds_toArray, List.set_cons_zero, List.set_cons_succ]))
            (refine q_call (v := .bool true) 9 #[.int .u32 (s : Nat), .int .i64 ((k : Int) - 1)] (by rfl) (fun w hC => by go_simp; try with_reducible rfl) (fun w hC => calls_in (calls_same (by have c := lhas_any s ((k : Int) - 1) w hs; rw [HB.out] at c; exact c)) (fun w2 hb => hC.next hb)) ?_; (try simp only [Act.put, List.getElem_toArray, List.getElem_cons_succ, List.getElem_cons_zero, List.setIfInBounds_toArray, List.set_cons_zero, List.set_cons_succ]))
            (refine q_val (v := ?_) (by rfl) ?_ ?_; rotate_left; (· (intro w hC; go_simp; try with_reducible rfl)); (try simp only [Act.put, List.getElem_toArray, List.getElem_cons_succ, List.getElem_cons_zero, List.setIfInBounds_toArray, List.set_cons_zero, List.set_cons_succ]))
            (refine q_val (v := ?_) (by rfl) ?_ ?_; rotate_left; (· (intro w hC; go_simp; try with_reducible rfl)); (try simp only [Act.put, List.getElem_toArray, List.getElem_cons_succ, List.getElem_cons_zero, List.setIfInBounds_toArray, List.set_cons_zero, List.set_cons_succ]))
            (refine q_val (v := ?_) (by rfl) ?_ ?_; rotate_left; (· (intro w hC; go_simp; try with_reducible rfl)); (try simp only [Act.put, List.getElem_toArray, List.getElem_cons_succ, List.getElem_cons_zero, List.setIfInBounds_toArray, List.set_cons_zero, List.set_cons_succ]))
            (refine q_val (v := ?_) (by rfl) ?_ ?_; rotate_left; (· (intro w hC; have e := NE.out; go_simp; try with_reducible rfl)); (try simp only [Act.put, List.getElem_toArray, List.getElem_cons_succ, List.getElem_cons_zero, List.setIfInBounds_toArray, List.set_cons_zero, List.set_cons_succ]))
            (refine q_val (v := ?_) (by rfl) ?_ ?_; rotate_left; (· (intro w hC; go_simp; try with_reducible rfl)); (try simp only [Act.put, List.getElem_toArray, List.getElem_cons_succ, List.getElem_cons_zero, List.setIfInBounds_toArray, List.set_cons_zero, List.set_cons_succ]))
            (refine q_val (v := ?_) (by rfl) ?_ ?_; rotate_left; (· (intro w hC; go_simp; try with_reducible rfl)); (try simp only [Act.put, List.getElem_toArray, List.getElem_cons_succ, List.getElem_cons_zero, List.setIfInBounds_toArray, List.set_cons_zero, List.set_cons_succ]))
            (refine q_val (v := ?_) (by rfl) ?_ ?_; rotate_left; (· (intro w hC; go_simp; try with_reducible rfl)); (try simp only [Act.put, List.getElem_toArray, List.getElem_cons_succ, List.getElem_cons_zero, List.setIfInBounds_toArray, List.set_cons_zero, List.set_cons_succ]))
            refine wpQuiet_nil ?_
            intro w5 hC5
            have HC5 := Lib.hid hC5
            clear hC5 HC
            have c0 := (HC5.out.kn.at 3 rfl).cell 0
            simp only [List.getElem?_toArray, List.getElem?_cons_zero] at c0
            cases bb with
            | false =>
              go_wp2_with (go_at_call 9; ((with_reducible refine (lhas_any s _ _ hs).mono ?_); rintro e w6 ⟨rfl, rfl⟩; rw [HB.out]))
              go_roundw
              case rel => exact ⟨k + 1, by omega, by go_num, by rw [cntL_yes HB.out]; go_num, ⟨_, rfl, ⟨fun h1 => (by cases h1), fun h1 => HBB.out.2 (fun j hj => h1 j (by omega))⟩⟩, HC5.out⟩
              case measure => simp [intOf]; omega
            | true =>
              cases ht2 : hasB t ((k : Int) - 1) with
              | false =>
                have HT := Lib.hid ht2
                clear ht2
                go_wp2_with (first
                  | (go_at_call 9; ((with_reducible refine (lhas_any s _ _ hs).mono ?_); rintro e w6 ⟨rfl, rfl⟩; rw [HB.out]))
                  | (go_at_call 9; ((with_reducible refine (lhas_any t _ _ ht).mono ?_); rintro e w6 ⟨rfl, rfl⟩; rw [HT.out])))
                go_roundw
                case rel => exact ⟨k + 1, by omega, by go_num, by rw [cntL_yes HB.out]; go_num, ⟨_, rfl, ⟨fun h1 => (by cases h1), fun h1 => (by have := h1 k (by omega) HB.out; rw [HT.out] at this; exact this)⟩⟩, HC5.out⟩
                case measure => simp [intOf]; omega
              | true =>
                have HT := Lib.hid ht2
                clear ht2
                go_wp2_with (first
                  | (go_at_call 9; ((with_reducible refine (lhas_any s _ _ hs).mono ?_); rintro e w6 ⟨rfl, rfl⟩; rw [HB.out]))
                  | (go_at_call 9; ((with_reducible refine (lhas_any t _ _ ht).mono ?_); rintro e w6 ⟨rfl, rfl⟩; rw [HT.out])))
                go_roundw
                case rel => exact ⟨k + 1, by omega, by go_num, by rw [cntL_yes HB.out]; go_num, ⟨_, rfl, ⟨fun _ j hj hj2 => by
                  by_cases c : j = k
                  · subst c; exact HT.out
                  · exact HBB.out.1 (by first | rfl | trivial) j (by omega) hj2, fun _ => rfl⟩⟩, HC5.out⟩
                case measure => simp [intOf]; omega
          · have HE := Lib.hid (show decide ((k : Int) - 1 = p) = false by simpa using he)
            have HNE := Lib.hid (show decide ((k : Int) - 1 ≠ p) = true by simpa using he)
            have NE := Lib.hid (show ((k : Int) - 1 != p) = true by simpa using he)
            obtain ⟨P, hP⟩ : ∃ P, isPort p = P := ⟨_, rfl⟩
            have HPORT := Lib.hid hP
            clear he hP
            have HW := Lib.hid (show hasB (withS s p) ((k : Int) - 1) = true by rw [has_withS, HB.out, HE.out, HPORT.out]; rfl)
            have HO := Lib.hid (show hasB (withoutS s p) ((k : Int) - 1) = true by rw [has_withoutS, HB.out, HNE.out]; rfl)
            refine wp_region_quiet (C := Hc w [(h + 1, #[.int .i64 (lastL (portsL s))], 3), (h, #[.int .i64 ((portsL s).length : Nat)], 3), (g + 1, #[.bool false], 4), (g, #[.int .u32 (s : Nat)], 22)] D) (by kernel_rfl) (by kernel_rfl) HC.out.drew ?_
            (refine q_val (v := ?_) (by rfl) ?_ ?_; rotate_left; (· (intro w hC; go_simp; try with_reducible rfl)); (try simp only [Act.put, List.getElem_toArray, List.getElem_cons_succ, List.getElem_cons_zero, List.setIfInBounds_toArray, List.set_cons_zero, List.set_cons_succ]))
            (refine q_val (v := ?_) (by rfl) ?_ ?_; rotate_left; (· (intro w hC; go_simp; try with_reducible rfl)); (try simp only [Act.put, List.getElem_toArray, List.getElem_cons_succ, List.getElem_cons_zero, List.setIfInBounds_toArray, List.set_cons_zero, List.set_cons_succ]))
            (refine q_call (v := .bool true) 10 #[.int .u32 (s : Nat), .int .i64 ((k : Int) - 1)] (by rfl) (fun w hC => by go_simp; try with_reducible rfl) (fun w hC => calls_in (calls_same (by have c := has_any s ((k : Int) - 1) w hs; rw [HB.out] at c; exact c)) (fun w2 hb => hC.next hb)) ?_; (try simp only [Act.put, List.getElem_toArray, List.getElem_cons_succ, List.getElem_cons_zero, List.setIfInBounds_toArray, List.set_cons_zero, List.set_cons_succ]))
            (refine q_val (v := ?_) (by rfl) ?_ ?_; rotate_left; (· (intro w hC; have c := (hC.kn.at 3 rfl).cell 0; simp only [List.getElem?_toArray, List.getElem?_cons_zero] at c; go_simp; try with_reducible rfl)); (try simp only [Act.put, List.getElem_toArray, List.getElem_cons_succ, List.getElem_cons_zero, List.setIfInBounds_toArray, List.set_cons_zero, List.set_cons_succ]))
            (refine q_val (v := ?_) (by rfl) ?_ ?_; rotate_left; (· (intro w hC; go_simp; try with_reducible rfl)); (try simp only [Act.put, List.getElem_toArray, List.getElem_cons_succ, List.getElem_cons_zero, List.setIfInBounds_toArray, List.set_cons_zero, List.set_cons_succ]))
            (refine q_call (v := .bool true) 9 #[.int .u32 (s : Nat), .int .i64 ((k : Int) - 1)] (by rfl) (fun w hC => by go_simp; try with_reducible rfl) (fun w hC => calls_in (calls_same (by have c := lhas_any s ((k : Int) - 1) w hs; rw [HB.out] at c; exact c)) (fun w2 hb => hC.next hb)) ?_; (try simp only [Act.put, List.getElem_toArray, List.getElem_cons_succ, List.getElem_cons_zero, List.setIfInBounds_toArray, List.set_cons_zero, List.set_cons_succ]))
            (refine q_val (v := ?_) (by rfl) ?_ ?_; rotate_left; (· (intro w hC; go_simp; try with_reducible rfl)); (try simp only [Act.put, List.getElem_toArray, List.getElem_cons_succ, List.getElem_cons_zero, List.setIfInBounds_toArray, List.set_cons_zero, List.set_cons_succ]))
            (refine q_val (v := ?_) (by rfl) ?_ ?_; rotate_left; (· (intro w hC; go_simp; try with_reducible rfl)); (try simp only [Act.put, List.getElem_toArray, List.getElem_cons_succ, List.getElem_cons_zero, List.setIfInBounds_toArray, List.set_cons_zero, List.set_cons_succ]))
            (refine q_val (v := ?_) (by rfl) ?_ ?_; rotate_left; (· (intro w hC; go_simp; try with_reducible rfl)); (try simp only [Act.put, List.getElem_toArray, List.getElem_cons_succ, List.getElem_cons_zero, List.setIfInBounds_toArray, List.set_cons_zero, List.set_cons_succ]))
            (refine q_val (v := ?_) (by rfl) ?_ ?_; rotate_left; (· (intro w hC; go_simp; try with_reducible rfl)); (try simp only [Act.put, List.getElem_toArray, List.getElem_cons_succ, List.getElem_cons_zero, List.setIfInBounds_toArray, List.set_cons_zero, List.set_cons_succ]))
            (refine q_call (v := .int .u32 (withS s p : Nat)) 11 #[.int .u32 (s : Nat), .int .i64 p] (by rfl) (fun w hC => by go_simp; try with_reducible rfl) (fun w hC => calls_in (calls_same (with_any s p w hs)) (fun w2 hb => hC.next hb)) ?_; (try simp only [Act.put, List.getElem_toArray, List.getElem_cons_succ, List.getElem_cons_zero, List.setIfInBounds_toArray, List.set_cons_zero, List.set_cons_succ]))
            (refine q_val (v := ?_) (by rfl) ?_ ?_; rotate_left; (· (intro w hC; go_simp; try with_reducible rfl)); (try simp only [Act.put, List.getElem_toArray, List.getElem_cons_succ, List.getElem_cons_zero, List.setIfInBounds_toArray, List.set_cons_zero, List.set_cons_succ]))
            (refine q_call (v := .bool true) 10 #[.int .u32 ((withS s p) : Nat), .int .i64 ((k : Int) - 1)] (by rfl) (fun w hC => by go_simp; try with_reducible rfl) (fun w hC => calls_in (calls_same (by have c := has_any (withS s p) ((k : Int) - 1) w HWL.out; rw [HW.out] at c; exact c)) (fun w2 hb => hC.next hb)) ?_; (try simp only [Act.put, List.getElem_toArray, List.getElem_cons_succ, List.getElem_cons_zero, List.setIfInBounds_toArray, List.set_cons_zero, List.set_cons_succ]))
            (refine q_val (v := ?_) (by rfl) ?_ ?_; rotate_left; (· (intro w hC; have c := (hC.kn.at 3 rfl).cell 0; simp only [List.getElem?_toArray, List.getElem?_cons_zero] at c; go_simp; try with_reducible rfl)); (try simp only [Act.put, List.getElem_toArray, List.getElem_cons_succ, List.getElem_cons_zero, List.setIfInBounds_toArray, List.set_cons_zero, List.set_cons_succ]))
            (refine q_val (v := ?_) (by rfl) ?_ ?_; rotate_left; (· (intro w hC; go_simp; try with_reducible rfl)); (try simp only [Act.put, List.getElem_toArray, List.getElem_cons_succ, List.getElem_cons_zero, List.setIfInBounds_toArray, List.set_cons_zero, List.set_cons_succ]))
            (refine q_call (v := .bool true) 9 #[.int .u32 (s : Nat), .int .i64 ((k : Int) - 1)] (by rfl) (fun w hC => by go_simp; try with_reducible rfl) (fun w hC => calls_in (calls_same (by have c := lhas_any s ((k : Int) - 1) w hs; rw [HB.out] at c; exact c)) (fun w2 hb => hC.next hb)) ?_; (try simp only [Act.put, List.getElem_toArray, List.getElem_cons_succ, List.getElem_cons_zero, List.setIfInBounds_toArray, List.set_cons_zero, List.set_cons_succ]))
            (refine q_val (v := ?_) (by rfl) ?_ ?_; rotate_left; (· (intro w hC; go_simp; try with_reducible rfl)); (try simp only [Act.put, List.getElem_toArray, List.getElem_cons_succ, List.getElem_cons_zero, List.setIfInBounds_toArray, List.set_cons_zero, List.set_cons_succ]))
            (refine q_skip (by rfl) ?_; (try simp only [Act.put, List.getElem_toArray, List.getElem_cons_succ, List.getElem_cons_zero, List.setIfInBounds_toArray, List.set_cons_zero, List.set_cons_succ]))
            (refine q_skip (by rfl) ?_; (try simp only [Act.put, List.getElem_toArray, List.getElem_cons_succ, List.getElem_cons_zero, List.setIfInBounds_toArray, List.set_cons_zero, List.set_cons_succ]))
            (refine q_skip (by rfl) ?_; (try simp only [Act.put, List.getElem_toArray, List.getElem_cons_succ, List.getElem_cons_zero, List.setIfInBounds_toArray, List.set_cons_zero, List.set_cons_succ]))
            (refine q_skip (by rfl) ?_; (try simp only [Act.put, List.getElem_toArray, List.getElem_cons_succ, List.getElem_cons_zero, List.setIfInBounds_toArray, List.set_cons_zero, List.set_cons_succ]))
            (refine q_skip (by rfl) ?_; (try simp only [Act.put, List.getElem_toArray, List.getElem_cons_succ, List.getElem_cons_zero, List.setIfInBounds_toArray, List.set_cons_zero, List.set_cons_succ]))
            (refine q_skip (by rfl) ?_; (try simp only [Act.put, List.getElem_toArray, List.getElem_cons_succ, List.getElem_cons_zero, List.setIfInBounds_toArray, List.set_cons_zero, List.set_cons_succ]))
            (refine q_skip (by rfl) ?_; (try simp only [Act.put, List.getElem_toArray, List.getElem_cons_succ, List.getElem_cons_zero, List.setIfInBounds_toArray, List.set_cons_zero, List.set_cons_succ]))
            (refine q_skip (by rfl) ?_; (try simp only [Act.put, List.getElem_toArray, List.getElem_cons_succ, List.getElem_cons_zero, List.setIfInBounds_toArray, List.set_cons_zero, List.set_cons_succ]))
            (refine q_skip (by rfl) ?_; (try simp only [Act.put, List.getElem_toArray, List.getElem_cons_succ, List.getElem_cons_zero, List.setIfInBounds_toArray, List.set_cons_zero, List.set_cons_succ]))
            (refine q_skip (by rfl) ?_; (try simp only [Act.put, List.getElem_toArray, List.getElem_cons_succ, List.getElem_cons_zero, List.setIfInBounds_toArray, List.set_cons_zero, List.set_cons_succ]))
            (refine q_skip (by rfl) ?_; (try simp only [Act.put, List.getElem_toArray, List.getElem_cons_succ, List.getElem_cons_zero, List.setIfInBounds_toArray, List.set_cons_zero, List.set_cons_succ]))
            (refine q_val (v := ?_) (by rfl) ?_ ?_; rotate_left; (· (intro w hC; go_simp; try with_reducible rfl)); (try simp only [Act.put, List.getElem_toArray, List.getElem_cons_succ, List.getElem_cons_zero, List.setIfInBounds_toArray, List.set_cons_zero, List.set_cons_succ]))
            (refine q_val (v := ?_) (by rfl) ?_ ?_; rotate_left; (· (intro w hC; go_simp; try with_reducible rfl)); (try simp only [Act.put, List.getElem_toArray, List.getElem_cons_succ, List.getElem_cons_zero, List.setIfInBounds_toArray, List.set_cons_zero, List.set_cons_succ]))
            (refine q_val (v := ?_) (by rfl) ?_ ?_; rotate_left; (· (intro w hC; go_simp; try with_reducible rfl)); (try simp only [Act.put, List.getElem_toArray, List.getElem_cons_succ, List.getElem_cons_zero, List.setIfInBounds_toArray, List.set_cons_zero, List.set_cons_succ]))
            (refine q_val (v := ?_) (by rfl) ?_ ?_; rotate_left; (· (intro w hC; go_simp; try with_reducible rfl)); (try simp only [Act.put, List.getElem_toArray, List.getElem_cons_succ, List.getElem_cons_zero, List.setIfInBounds_toArray, List.set_cons_zero, List.set_cons_succ]))
            (refine q_val (v := ?_) (by rfl) ?_ ?_; rotate_left; (· (intro w hC; go_simp; try with_reducible rfl)); (try simp only [Act.put, List.getElem_toArray, List.getElem_cons_succ, List.getElem_cons_zero, List.setIfInBounds_toArray, List.set_cons_zero, List.set_cons_succ]))
            (refine q_val (v := ?_) (by rfl) ?_ ?_; rotate_left; (· (intro w hC; go_simp; try with_reducible rfl)); (try simp only [Act.put, List.getElem_toArray, List.getElem_cons_succ, List.getElem_cons_zero, List.setIfInBounds_toArray, List.set_cons_zero, List.set_cons_succ]))
            (refine q_call (v := .int .u32 (withoutS s p : Nat)) 12 #[.int .u32 (s : Nat), .int .i64 p] (by rfl) (fun w hC => by go_simp; try with_reducible rfl) (fun w hC => calls_in (calls_same (without_any s p w hs)) (fun w2 hb => hC.next hb)) ?_; (try simp only [Act.put, List.getElem_toArray, List.getElem_cons_succ, List.getElem_cons_zero, List.setIfInBounds_toArray, List.set_cons_zero, List.set_cons_succ]))
            (refine q_val (v := ?_) (by rfl) ?_ ?_; rotate_left; (· (intro w hC; go_simp; try with_reducible rfl)); (try simp only [Act.put, List.getElem_toArray, List.getElem_cons_succ, List.getElem_cons_zero, List.setIfInBounds_toArray, List.set_cons_zero, List.set_cons_succ]))
            (refine q_call (v := .bool true) 10 #[.int .u32 ((withoutS s p) : Nat), .int .i64 ((k : Int) - 1)] (by rfl) (fun w hC => by go_simp; try with_reducible rfl) (fun w hC => calls_in (calls_same (by have c := has_any (withoutS s p) ((k : Int) - 1) w HOL.out; rw [HO.out] at c; exact c)) (fun w2 hb => hC.next hb)) ?_; (try simp only [Act.put, List.getElem_toArray, List.getElem_cons_succ, List.getElem_cons_zero, List.setIfInBounds_toArray, List.set_cons_zero, List.set_cons_succ]))
            (refine q_val (v := ?_) (by rfl) ?_ ?_; rotate_left; (· (intro w hC; have c := (hC.kn.at 3 rfl).cell 0; simp only [List.getElem?_toArray, List.getElem?_cons_zero] at c; go_simp; try with_reducible rfl)); (try simp only [Act.put, List.getElem_toArray, List.getElem_cons_succ, List.getElem_cons_zero, List.setIfInBounds_toArray, List.set_cons_zero, List.set_cons_succ]))
            (refine q_val (v := ?_) (by rfl) ?_ ?_; rotate_left; (· (intro w hC; go_simp; try with_reducible rfl)); (try simp only [Act.put, List.getElem_toArray, List.getElem_cons_succ, List.getElem_cons_zero, List.setIfInBounds_toArray, List.set_cons_zero, List.set_cons_succ]))
            (refine q_call (v := .bool true) 9 #[.int .u32 (s : Nat), .int .i64 ((k : Int) - 1)] (by rfl) (fun w hC => by go_simp; try with_reducible rfl) (fun w hC => calls_in (calls_same (by have c := lhas_any s ((k : Int) - 1) w hs; rw [HB.out] at c; exact c)) (fun w2 hb => hC.next hb)) ?_; (try simp only [Act.put, List.getElem_toArray, List.getElem_cons_succ, List.getElem_cons_zero, List.setIfInBounds_toArray, List.set_cons_zero, List.set_cons_succ]))
            (refine q_val (v := ?_) (by rfl) ?_ ?_; rotate_left; (· (intro w hC; go_simp; try with_reducible rfl)); (try simp only [Act.put, List.getElem_toArray, List.getElem_cons_succ, List.getElem_cons_zero, List.setIfInBounds_toArray, List.set_cons_zero, List.set_cons_succ]))
            (refine q_val (v := ?_) (by rfl) ?_ ?_; rotate_left; (· (intro w hC; go_simp; try with_reducible rfl)); (try simp only [Act.put, List.getElem_toArray, List.getElem_cons_succ, List.getElem_cons_zero, List.setIfInBounds_toArray, List.set_cons_zero, List.set_cons_succ]))
            (refine q_val (v := ?_) (by rfl) ?_ ?_; rotate_left; (· (intro w hC; go_simp; try with_reducible rfl)); (try simp only [Act.put, List.getElem_toArray, List.getElem_cons_succ, List.getElem_cons_zero, List.setIfInBounds_toArray, List.set_cons_zero, List.set_cons_succ]))
            (refine q_val (v := ?_) (by rfl) ?_ ?_; rotate_left; (· (intro w hC; have e := NE.out; go_simp; try with_reducible rfl)); (try simp only [Act.put, List.getElem_toArray, List.getElem_cons_succ, List.getElem_cons_zero, List.setIfInBounds_toArray, List.set_cons_zero, List.set_cons_succ]))
            (refine q_val (v := ?_) (by rfl) ?_ ?_; rotate_left; (· (intro w hC; go_simp; try with_reducible rfl)); (try simp only [Act.put, List.getElem_toArray, List.getElem_cons_succ, List.getElem_cons_zero, List.setIfInBounds_toArray, List.set_cons_zero, List.set_cons_succ]))
            (refine q_val (v := ?_) (by rfl) ?_ ?_; rotate_left; (· (intro w hC; go_simp; try with_reducible rfl)); (try simp only [Act.put, List.getElem_toArray, List.getElem_cons_succ, List.getElem_cons_zero, List.setIfInBounds_toArray, List.set_cons_zero, List.set_cons_succ]))
            (refine q_val (v := ?_) (by rfl) ?_ ?_; rotate_left; (· (intro w hC; go_simp; try with_reducible rfl)); (try simp only [Act.put, List.getElem_toArray, List.getElem_cons_succ, List.getElem_cons_zero, List.setIfInBounds_toArray, List.set_cons_zero, List.set_cons_succ]))
            refine wpQuiet_nil ?_
            intro w5 hC5
            have HC5 := Lib.hid hC5
            clear hC5 HC
            have c0 := (HC5.out.kn.at 3 rfl).cell 0
            simp only [List.getElem?_toArray, List.getElem?_cons_zero] at c0
            cases bb with
            | false =>
              go_wp2_with (go_at_call 9; ((with_reducible refine (lhas_any s _ _ hs).mono ?_); rintro e w6 ⟨rfl, rfl⟩; rw [HB.out]))
              go_roundw
              case rel => exact ⟨k + 1, by omega, by go_num, by rw [cntL_yes HB.out]; go_num, ⟨_, rfl, ⟨fun h1 => (by cases h1), fun h1 => HBB.out.2 (fun j hj => h1 j (by omega))⟩⟩, HC5.out⟩
              case measure => simp [intOf]; omega
            | true =>
              cases ht2 : hasB t ((k : Int) - 1) with
              | false =>
                have HT := Lib.hid ht2
                clear ht2
                go_wp2_with (first
                  | (go_at_call 9; ((with_reducible refine (lhas_any s _ _ hs).mono ?_); rintro e w6 ⟨rfl, rfl⟩; rw [HB.out]))
                  | (go_at_call 9; ((with_reducible refine (lhas_any t _ _ ht).mono ?_); rintro e w6 ⟨rfl, rfl⟩; rw [HT.out])))
                go_roundw
                case rel => exact ⟨k + 1, by omega, by go_num, by rw [cntL_yes HB.out]; go_num, ⟨_, rfl, ⟨fun h1 => (by cases h1), fun h1 => (by have := h1 k (by omega) HB.out; rw [HT.out] at this; exact this)⟩⟩, HC5.out⟩
                case measure => simp [intOf]; omega
              | true =>
                have HT := Lib.hid ht2
                clear ht2
                go_wp2_with (first
                  | (go_at_call 9; ((with_reducible refine (lhas_any s _ _ hs).mono ?_); rintro e w6 ⟨rfl, rfl⟩; rw [HB.out]))
                  | (go_at_call 9; ((with_reducible refine (lhas_any t _ _ ht).mono ?_); rintro e w6 ⟨rfl, rfl⟩; rw [HT.out])))
                go_roundw
                case rel => exact ⟨k + 1, by omega, by go_num, by rw [cntL_yes HB.out]; go_num, ⟨_, rfl, ⟨fun _ j hj hj2 => by
                  by_cases c : j = k
                  · subst c; exact HT.out
                  · exact HBB.out.1 (by first | rfl | trivial) j (by omega) hj2, fun _ => rfl⟩⟩, HC5.out⟩
                case measure => simp [intOf]; omega
        | false =>
          have HB := Lib.hid hb
          clear hb
          by_cases he : (k : Int) - 1 = p
          · have HE := Lib.hid (show decide ((k : Int) - 1 = p) = true by simpa using he)
            have HNE := Lib.hid (show decide ((k : Int) - 1 ≠ p) = false by simpa using he)
            have EQ := Lib.hid (show ((k : Int) - 1 == p) = true by simpa using he)
            clear he
            by_cases hl : 1 ≤ p
            · have LO := Lib.hid (show decide (1 ≤ p) = true by simpa using hl)
              by_cases hh2 : p ≤ 16
              · have HI2 := Lib.hid (show decide (p ≤ 16) = true by simpa using hh2)
                have HPORT := Lib.hid (show isPort p = true by unfold isPort; rw [LO.out, HI2.out]; rfl)
                clear hl hh2
                have HW := Lib.hid (show hasB (withS s p) ((k : Int) - 1) = true by rw [has_withS, HB.out, HE.out, HPORT.out]; rfl)
                have HO := Lib.hid (show hasB (withoutS s p) ((k : Int) - 1) = false by rw [has_withoutS, HB.out, HNE.out]; rfl)
                refine wp_region_quiet (C := Hc w [(h + 1, #[.int .i64 (lastL (portsL s))], 3), (h, #[.int .i64 ((portsL s).length : Nat)], 3), (g + 1, #[.bool false], 4), (g, #[.int .u32 (s : Nat)], 22)] D) (by kernel_rfl) (by kernel_rfl) HC.out.drew ?_
                (refine q_val (v := ?_) (by rfl) ?_ ?_; rotate_left; (· (intro w hC; go_simp; try with_reducible rfl)); (try simp only [Act.put, List.getElem_toArray, List.getElem_cons_succ, List.getElem_cons_zero, List.setIfInBounds_toArray, List.set_cons_zero, List.set_cons_succ]))
                (refine q_val (v := ?_) (by rfl) ?_ ?_; rotate_left; (· (intro w hC; go_simp; try with_reducible rfl)); (try simp only [Act.put, List.getElem_toArray, List.getElem_cons_succ, List.getElem_cons_zero, List.setIfInBounds_toArray, List.set_cons_zero, List.set_cons_succ]))
                (refine q_call (v := .bool false) 10 #[.int .u32 (s : Nat), .int .i64 ((k : Int) - 1)] (by rfl) (fun w hC => by go_simp; try with_reducible rfl) (fun w hC => calls_in (calls_same (by have c := has_any s ((k : Int) - 1) w hs; rw [HB.out] at c; exact c)) (fun w2 hb => hC.next hb)) ?_; (try simp only [Act.put, List.getElem_toArray, List.getElem_cons_succ, List.getElem_cons_zero, List.setIfInBounds_toArray, List.set_cons_zero, List.set_cons_succ]))
                (refine q_val (v := ?_) (by rfl) ?_ ?_; rotate_left; (· (intro w hC; have c := (hC.kn.at 3 rfl).cell 0; simp only [List.getElem?_toArray, List.getElem?_cons_zero] at c; go_simp; try with_reducible rfl)); (try simp only [Act.put, List.getElem_toArray, List.getElem_cons_succ, List.getElem_cons_zero, List.setIfInBounds_toArray, List.set_cons_zero, List.set_cons_succ]))
                (refine q_val (v := ?_) (by rfl) ?_ ?_; rotate_left; (· (intro w hC; go_simp; try with_reducible rfl)); (try simp only [Act.put, List.getElem_toArray, List.getElem_cons_succ, List.getElem_cons_zero, List.setIfInBounds_toArray, List.set_cons_zero, List.set_cons_succ]))
                (refine q_call (v := .bool false) 9 #[.int .u32 (s : Nat), .int .i64 ((k : Int) - 1)] (by rfl) (fun w hC => by go_simp; try with_reducible rfl) (fun w hC => calls_in (calls_same (by have c := lhas_any s ((k : Int) - 1) w hs; rw [HB.out] at c; exact c)) (fun w2 hb => hC.next hb)) ?_; (try simp only [Act.put, List.getElem_toArray, List.getElem_cons_succ, List.getElem_cons_zero, List.setIfInBounds_toArray, List.set_cons_zero, List.set_cons_succ]))
                (refine q_val (v := ?_) (by rfl) ?_ ?_; rotate_left; (· (intro w hC; go_simp; try with_reducible rfl)); (try simp only [Act.put, List.getElem_toArray, List.getElem_cons_succ, List.getElem_cons_zero, List.setIfInBounds_toArray, List.set_cons_zero, List.set_cons_succ]))
                (refine q_val (v := ?_) (by rfl) ?_ ?_; rotate_left; (· (intro w hC; go_simp; try with_reducible rfl)); (try simp only [Act.put, List.getElem_toArray, List.getElem_cons_succ, List.getElem_cons_zero, List.setIfInBounds_toArray, List.set_cons_zero, List.set_cons_succ]))
                (refine q_val (v := ?_) (by rfl) ?_ ?_; rotate_left; (· (intro w hC; go_simp; try with_reducible rfl)); (try simp only [Act.put, List.getElem_toArray, List.getElem_cons_succ, List.getElem_cons_zero, List.setIfInBounds_toArray, List.set_cons_zero, List.set_cons_succ]))
                (refine q_val (v := ?_) (by rfl) ?_ ?_; rotate_left; (· (intro w hC; go_simp; try with_reducible rfl)); (try simp only [Act.put, List.getElem_toArray, List.getElem_cons_succ, List.getElem_cons_zero, List.setIfInBounds_toArray, List.set_cons_zero, List.set_cons_succ]))
                (refine q_call (v := .int .u32 (withS s p : Nat)) 11 #[.int .u32 (s : Nat), .int .i64 p] (by rfl) (fun w hC => by go_simp; try with_reducible rfl) (fun w hC => calls_in (calls_same (with_any s p w hs)) (fun w2 hb => hC.next hb)) ?_; (try simp only [Act.put, List.getElem_toArray, List.getElem_cons_succ, List.getElem_cons_zero, List.setIfInBounds_toArray, List.set_cons_zero, List.set_cons_succ]))
                (refine q_val (v := ?_) (by rfl) ?_ ?_; rotate_left; (· (intro w hC; go_simp; try with_reducible rfl)); (try simp only [Act.put, List.getElem_toArray, List.getElem_cons_succ, List.getElem_cons_zero, List.setIfInBounds_toArray, List.set_cons_zero, List.set_cons_succ]))
                (refine q_call (v := .bool true) 10 #[.int .u32 ((withS s p) : Nat), .int .i64 ((k : Int) - 1)] (by rfl) (fun w hC => by go_simp; try with_reducible rfl) (fun w hC => calls_in (calls_same (by have c := has_any (withS s p) ((k : Int) - 1) w HWL.out; rw [HW.out] at c; exact c)) (fun w2 hb => hC.next hb)) ?_; (try simp only [Act.put, List.getElem_toArray, List.getElem_cons_succ, List.getElem_cons_zero, List.setIfInBounds_toArray, List.set_cons_zero, List.set_cons_succ]))
                (refine q_val (v := ?_) (by rfl) ?_ ?_; rotate_left; (· (intro w hC; have c := (hC.kn.at 3 rfl).cell 0; simp only [List.getElem?_toArray, List.getElem?_cons_zero] at c; go_simp; try with_reducible rfl)); (try simp only [Act.put, List.getElem_toArray, List.getElem_cons_succ, List.getElem_cons_zero, List.setIfInBounds_toArray, List.set_cons_zero, List.set_cons_succ]))
                (refine q_val (v := ?_) (by rfl) ?_ ?_; rotate_left; (· (intro w hC; go_simp; try with_reducible rfl)); (try simp only [Act.put, List.getElem_toArray, List.getElem_cons_succ, List.getElem_cons_zero, List.setIfInBounds_toArray, List.set_cons_zero, List.set_cons_succ]))
                (refine q_call (v := .bool false) 9 #[.int .u32 (s : Nat), .int .i64 ((k : Int) - 1)] (by rfl) (fun w hC => by go_simp; try with_reducible rfl) (fun w hC => calls_in (calls_same (by have c := lhas_any s ((k : Int) - 1) w hs; rw [HB.out] at c; exact c)) (fun w2 hb => hC.next hb)) ?_; (try simp only [Act.put, List.getElem_toArray, List.getElem_cons_succ, List.getElem_cons_zero, List.setIfInBounds_toArray, List.set_cons_zero, List.set_cons_succ]))
                (refine q_val (v := ?_) (by rfl) ?_ ?_; rotate_left; (· (intro w hC; go_simp; try with_reducible rfl)); (try simp only [Act.put, List.getElem_toArray, List.getElem_cons_succ, List.getElem_cons_zero, List.setIfInBounds_toArray, List.set_cons_zero, List.set_cons_succ]))
                (refine q_val (v := ?_) (by rfl) ?_ ?_; rotate_left; (· (intro w hC; go_simp; try with_reducible rfl)); (try simp only [Act.put, List.getElem_toArray, List.getElem_cons_succ, List.getElem_cons_zero, List.setIfInBounds_toArray, List.set_cons_zero, List.set_cons_succ]))
                (refine q_val (v := ?_) (by rfl) ?_ ?_; rotate_left; (· (intro w hC; go_simp; try with_reducible rfl)); (try simp only [Act.put, List.getElem_toArray, List.getElem_cons_succ, List.getElem_cons_zero, List.setIfInBounds_toArray, List.set_cons_zero, List.set_cons_succ]))
                (refine q_val (v := ?_) (by rfl) ?_ ?_; rotate_left; (· (intro w hC; have e := EQ.out; go_simp; try with_reducible rfl)); (try simp only [Act.put, List.getElem_toArray, List.getElem_cons_succ, List.getElem_cons_zero, List.setIfInBounds_toArray, List.set_cons_zero, List.set_cons_succ]))
                (refine q_val (v := ?_) (by rfl) ?_ ?_; rotate_left; (· (intro w hC; go_simp; try with_reducible rfl)); (try simp only [Act.put, List.getElem_toArray, List.getElem_cons_succ, List.getElem_cons_zero, List.setIfInBounds_toArray, List.set_cons_zero, List.set_cons_succ]))
                (refine q_val (v := ?_) (by rfl) ?_ ?_; rotate_left; (· (intro w hC; go_simp; try with_reducible rfl)); (try simp only [Act.put, List.getElem_toArray, List.getElem_cons_succ, List.getElem_cons_zero, List.setIfInBounds_toArray, List.set_cons_zero, List.set_cons_succ]))
                (refine q_val (v := ?_) (by rfl) ?_ ?_; rotate_left; (· (intro w hC; have e := LO.out; go_simp; try with_reducible rfl)); (try simp only [Act.put, List.getElem_toArray, List.getElem_cons_succ, List.getElem_cons_zero, List.setIfInBounds_toArray, List.set_cons_zero, List.set_cons_succ]))
                (refine q_val (v := ?_) (by rfl) ?_ ?_; rotate_left; (· (intro w hC; go_simp; try with_reducible rfl)); (try simp only [Act.put, List.getElem_toArray, List.getElem_cons_succ, List.getElem_cons_zero, List.setIfInBounds_toArray, List.set_cons_zero, List.set_cons_succ]))
                (refine q_val (v := ?_) (by rfl) ?_ ?_; rotate_left; (· (intro w hC; go_simp; try with_reducible rfl)); (try simp only [Act.put, List.getElem_toArray, List.getElem_cons_succ, List.getElem_cons_zero, List.setIfInBounds_toArray, List.set_cons_zero, List.set_cons_succ]))
                (refine q_val (v := ?_) (by rfl) ?_ ?_; rotate_left; (· (intro w hC; go_simp; try with_reducible rfl)); (try simp only [Act.put, List.getElem_toArray, List.getElem_cons_succ, List.getElem_cons_zero, List.setIfInBounds_toArray, List.set_cons_zero, List.set_cons_succ]))
                (refine q_val (v := ?_) (by rfl) ?_ ?_; rotate_left; (· (intro w hC; have e := HI2.out; go_simp; try with_reducible rfl)); (try simp only [Act.put, List.getElem_toArray, List.getElem_cons_succ, List.getElem_cons_zero, List.setIfInBounds_toArray, List.set_cons_zero, List.set_cons_succ]))
                (refine q_val (v := ?_) (by rfl) ?_ ?_; rotate_left; (· (intro w hC; go_simp; try with_reducible rfl)); (try simp only [Act.put, List.getElem_toArray, List.getElem_cons_succ, List.getElem_cons_zero, List.setIfInBounds_toArray, List.set_cons_zero, List.set_cons_succ]))
                (refine q_val (v := ?_) (by rfl) ?_ ?_; rotate_left; (· (intro w hC; go_simp; try with_reducible rfl)); (try simp only [Act.put, List.getElem_toArray, List.getElem_cons_succ, List.getElem_cons_zero, List.setIfInBounds_toArray, List.set_cons_zero, List.set_cons_succ]))
                (refine q_val (v := ?_) (by rfl) ?_ ?_; rotate_left; (· (intro w hC; go_simp; try with_reducible rfl)); (try simp only [Act.put, List.getElem_toArray, List.getElem_cons_succ, List.getElem_cons_zero, List.setIfInBounds_toArray, List.set_cons_zero, List.set_cons_succ]))
                (refine q_val (v := ?_) (by rfl) ?_ ?_; rotate_left; (· (intro w hC; go_simp; try with_reducible rfl)); (try simp only [Act.put, List.getElem_toArray, List.getElem_cons_succ, List.getElem_cons_zero, List.setIfInBounds_toArray, List.set_cons_zero, List.set_cons_succ]))
                (refine q_val (v := ?_) (by rfl) ?_ ?_; rotate_left; (· (intro w hC; go_simp; try with_reducible rfl)); (try simp only [Act.put, List.getElem_toArray, List.getElem_cons_succ, List.getElem_cons_zero, List.setIfInBounds_toArray, List.set_cons_zero, List.set_cons_succ]))
                (refine q_val (v := ?_) (by rfl) ?_ ?_; rotate_left; (· (intro w hC; go_simp; try with_reducible rfl)); (try simp only [Act.put, List.getElem_toArray, List.getElem_cons_succ, List.getElem_cons_zero, List.setIfInBounds_toArray, List.set_cons_zero, List.set_cons_succ]))
                (refine q_val (v := ?_) (by rfl) ?_ ?_; rotate_left; (· (intro w hC; go_simp; try with_reducible rfl)); (try simp only [Act.put, List.getElem_toArray, List.getElem_cons_succ, List.getElem_cons_zero, List.setIfInBounds_toArray, List.set_cons_zero, List.set_cons_succ]))
                (refine q_call (v := .int .u32 (withoutS s p : Nat)) 12 #[.int .u32 (s : Nat), .int .i64 p] (by rfl) (fun w hC => by go_simp; try with_reducible rfl) (fun w hC => calls_in (calls_same (without_any s p w hs)) (fun w2 hb => hC.next hb)) ?_; (try simp only [Act.put, List.getElem_toArray, List.getElem_cons_succ, List.getElem_cons_zero, List.setIfInBounds_toArray, List.set_cons_zero, List.set_cons_succ]))
                (refine q_val (v := ?_) (by rfl) ?_ ?_; rotate_left; (· (intro w hC; go_simp; try with_reducible rfl)); (try simp only [Act.put, List.getElem_toArray, List.getElem_cons_succ, List.getElem_cons_zero, List.setIfInBounds_toArray, List.set_cons_zero, List.set_cons_succ]))
                (refine q_call (v := .bool false) 10 #[.int .u32 ((withoutS s p) : Nat), .int .i64 ((k : Int) - 1)] (by rfl) (fun w hC => by go_simp; try with_reducible rfl) (fun w hC => calls_in (calls_same (by have c := has_any (withoutS s p) ((k : Int) - 1) w HOL.out; rw [HO.out] at c; exact c)) (fun w2 hb => hC.next hb)) ?_; (try simp only [Act.put, List.getElem_toArray, List.getElem_cons_succ, List.getElem_cons_zero, List.setIfInBounds_toArray, List.set_cons_zero, List.set_cons_succ]))
                (refine q_val (v := ?_) (by rfl) ?_ ?_; rotate_left; (· (intro w hC; have c := (hC.kn.at 3 rfl).cell 0; simp only [List.getElem?_toArray, List.getElem?_cons_zero] at c; go_simp; try with_reducible rfl)); (try simp only [Act.put, List.getElem_toArray, List.getElem_cons_succ, List.getElem_cons_zero, List.setIfInBounds_toArray, List.set_cons_zero, List.set_cons_succ]))
                (refine q_val (v := ?_) (by rfl) ?_ ?_; rotate_left; (· (intro w hC; go_simp; try with_reducible rfl)); (try simp only [Act.put, List.getElem_toArray, List.getElem_cons_succ, List.getElem_cons_zero, List.setIfInBounds_toArray, List.set_cons_zero, List.set_cons_succ]))
                (refine q_call (v := .bool false) 9 #[.int .u32 (s : Nat), .int .i64 ((k : Int) - 1)] (by rfl) (fun w hC => by go_simp; try with_reducible rfl) (fun w hC => calls_in (calls_same (by have c := lhas_any s ((k : Int) - 1) w hs; rw [HB.out] at c; exact c)) (fun w2 hb => hC.next hb)) ?_; (try simp only [Act.put, List.getElem_toArray, List.getElem_cons_succ, List.getElem_cons_zero, List.setIfInBounds_toArray, List.set_cons_zero, List.set_cons_succ]))
                (refine q_val (v := ?_) (by rfl) ?_ ?_; rotate_left; (· (intro w hC; go_simp; try with_reducible rfl)); (try simp only [Act.put, List.getElem_toArray, List.getElem_cons_succ, List.getElem_cons_zero, List.setIfInBounds_toArray, List.set_cons_zero, List.set_cons_succ]))
                (refine q_skip (by rfl) ?_; (try simp only [Act.put, List.getElem_toArray, List.getElem_cons_succ, List.getElem_cons_zero, List.setIfInBounds_toArray, List.set_cons_zero, List.set_cons_succ]))
                (refine q_skip (by rfl) ?_; (try simp only [Act.put, List.getElem_toArray, List.getElem_cons_succ, List.getElem_cons_zero, List.setIfInBounds_toArray, List.set_cons_zero, List.set_cons_succ]))
                (refine q_skip (by rfl) ?_; (try simp only [Act.put, List.getElem_toArray, List.getElem_cons_succ, List.getElem_cons_zero, List.setIfInBounds_toArray, List.set_cons_zero, List.set_cons_succ]))
                (refine q_val (v := ?_) (by rfl) ?_ ?_; rotate_left; (· (intro w hC; go_simp; try with_reducible rfl)); (try simp only [Act.put, List.getElem_toArray, List.getElem_cons_succ, List.getElem_cons_zero, List.setIfInBounds_toArray, List.set_cons_zero, List.set_cons_succ]))
                (refine q_val (v := ?_) (by rfl) ?_ ?_; rotate_left; (· (intro w hC; go_simp; try with_reducible rfl)); (try simp only [Act.put, List.getElem_toArray, List.getElem_cons_succ, List.getElem_cons_zero, List.setIfInBounds_toArray, List.set_cons_zero, List.set_cons_succ]))
                (refine q_val (v := ?_) (by rfl) ?_ ?_; rotate_left; (· (intro w hC; go_simp; try with_reducible rfl)); (try simp only [Act.put, List.getElem_toArray, List.getElem_cons_succ, List.getElem_cons_zero, List.setIfInBounds_toArray, List.set_cons_zero, List.set_cons_succ]))
                refine wpQuiet_nil ?_
                intro w5 hC5
                have HC5 := Lib.hid hC5
                clear hC5 HC
                have c0 := (HC5.out.kn.at 3 rfl).cell 0
                simp only [List.getElem?_toArray, List.getElem?_cons_zero] at c0
                go_wp2_with (go_at_call 9; ((with_reducible refine (lhas_any s _ _ hs).mono ?_); rintro e w6 ⟨rfl, rfl⟩; rw [HB.out]))
                go_roundw
                case rel => exact ⟨k + 1, by omega, by go_num, by rw [cntL_no HB.out], ⟨_, rfl, HBB.out.trans ⟨fun h1 j hj hj2 => by
                  by_cases c : j = k
                  · subst c; rw [HB.out] at hj2; cases hj2
                  · exact h1 j (by omega) hj2, fun h1 j hj => h1 j (by omega)⟩⟩, HC5.out⟩
                case measure => simp [intOf]; omega
              · have HI2 := Lib.hid (show decide (p ≤ 16) = false by simpa using hh2)
                have HPORT := Lib.hid (show isPort p = false by unfold isPort; rw [LO.out, HI2.out]; rfl)
                clear hl hh2
                have HW := Lib.hid (show hasB (withS s p) ((k : Int) - 1) = false by rw [has_withS, HB.out, HE.out, HPORT.out]; rfl)
                have HO := Lib.hid (show hasB (withoutS s p) ((k : Int) - 1) = false by rw [has_withoutS, HB.out, HNE.out]; rfl)
                refine wp_region_quiet (C := Hc w [(h + 1, #[.int .i64 (lastL (portsL s))], 3), (h, #[.int .i64 ((portsL s).length : Nat)], 3), (g + 1, #[.bool false], 4), (g, #[.int .u32 (s : Nat)], 22)] D) (by kernel_rfl) (by kernel_rfl) HC.out.drew ?_
                (refine q_val (v := ?_) (by rfl) ?_ ?_; rotate_left; (· (intro w hC; go_simp; try with_reducible rfl)); (try simp only [Act.put, List.getElem_toArray, List.getElem_cons_succ, List.getElem_cons_zero, List.setIfInBounds_toArray, List.set_cons_zero, List.set_cons_succ]))
                (refine q_val (v := ?_) (by rfl) ?_ ?_; rotate_left; (· (intro w hC; go_simp; try with_reducible rfl)); (try simp only [Act.put, List.getElem_toArray, List.getElem_cons_succ, List.getElem_cons_zero, List.setIfInBounds_toArray, List.set_cons_zero, List.set_cons_succ]))
                (refine q_call (v := .bool false) 10 #[.int .u32 (s : Nat), .int .i64 ((k : Int) - 1)] (by rfl) (fun w hC => by go_simp; try with_reducible rfl) (fun w hC => calls_in (calls_same (by have c := has_any s ((k : Int) - 1) w hs; rw [HB.out] at c; exact c)) (fun w2 hb => hC.next hb)) ?_; (try simp only [Act.put, List.getElem_toArray, List.getElem_cons_succ, List.getElem_cons_zero, List.setIfInBounds_toArray, List.set_cons_zero, List.set_cons_succ]))
                (refine q_val (v := ?_) (by rfl) ?_ ?_; rotate_left; (· (intro w hC; have c := (hC.kn.at 3 rfl).cell 0; simp only [List.getElem?_toArray, List.getElem?_cons_zero] at c; go_simp; try with_reducible rfl)); (try simp only [Act.put, List.getElem_toArray, List.getElem_cons_succ, List.getElem_cons_zero, List.setIfInBounds_toArray, List.set_cons_zero, List.set_cons_succ]))
                (refine q_val (v := ?_) (by rfl) ?_ ?_; rotate_left; (· (intro w hC; go_simp; try with_reducible rfl)); (try simp only [Act.put, List.getElem_toArray, List.getElem_cons_succ, List.getElem_cons_zero, List.setIfInBounds_toArray, List.set_cons_zero, List.set_cons_succ]))
                (refine q_call (v := .bool false) 9 #[.int .u32 (s : Nat), .int .i64 ((k : Int) - 1)] (by rfl) (fun w hC => by go_simp; try with_reducible rfl) (fun w hC => calls_in (calls_same (by have c := lhas_any s ((k : Int) - 1) w hs; rw [HB.out] at c; exact c)) (fun w2 hb => hC.next hb)) ?_; (try simp only [Act.put, List.getElem_toArray, List.getElem_cons_succ, List.getElem_cons_zero, List.setIfInBounds_toArray, List.set_cons_zero, List.set_cons_succ]))
                (refine q_val (v := ?_) (by rfl) ?_ ?_; rotate_left; (· (intro w hC; go_simp; try with_reducible rfl)); (try simp only [Act.put, List.getElem_toArray, List.getElem_cons_succ, List.getElem_cons_zero, List.setIfInBounds_toArray, List.set_cons_zero, List.set_cons_succ]))
                (refine q_val (v := ?_) (by rfl) ?_ ?_; rotate_left; (· (intro w hC; go_simp; try with_reducible rfl)); (try simp only [Act.put, List.getElem_toArray, List.getElem_cons_succ, List.getElem_cons_zero, List.setIfInBounds_toArray, List.set_cons_zero, List.set_cons_succ]))
                (refine q_val (v := ?_) (by rfl) ?_ ?_; rotate_left; (· (intro w hC; go_simp; try with_reducible rfl)); (try simp only [Act.put, List.getElem_toArray, List.getElem_cons_succ, List.getElem_cons_zero, List.setIfInBounds_toArray, List.set_cons_zero, List.set_cons_succ]))
                (refine q_val (v := ?_) (by rfl) ?_ ?_; rotate_left; (· (intro w hC; go_simp; try with_reducible rfl)); (try simp only [Act.put, List.getElem_toArray, List.getElem_cons_succ, List.getElem_cons_zero, List.setIfInBounds_toArray, List.set_cons_zero, List.set_cons_succ]))
                (refine q_call (v := .int .u32 (withS s p : Nat)) 11 #[.int .u32 (s : Nat), .int .i64 p] (by rfl) (fun w hC => by go_simp; try with_reducible rfl) (fun w hC => calls_in (calls_same (with_any s p w hs)) (fun w2 hb => hC.next hb)) ?_; (try simp only [Act.put, List.getElem_toArray, List.getElem_cons_succ, List.getElem_cons_zero, List.setIfInBounds_toArray, List.set_cons_zero, List.set_cons_succ]))
                (refine q_val (v := ?_) (by rfl) ?_ ?_; rotate_left; (· (intro w hC; go_simp; try with_reducible rfl)); (try simp only [Act.put, List.getElem_toArray, List.getElem_cons_succ, List.getElem_cons_zero, List.setIfInBounds_toArray, List.set_cons_zero, List.set_cons_succ]))
                (refine q_call (v := .bool false) 10 #[.int .u32 ((withS s p) : Nat), .int .i64 ((k : Int) - 1)] (by rfl) (fun w hC => by go_simp; try with_reducible rfl) (fun w hC => calls_in (calls_same (by have c := has_any (withS s p) ((k : Int) - 1) w HWL.out; rw [HW.out] at c; exact c)) (fun w2 hb => hC.next hb)) ?_; (try simp only [Act.put, List.getElem_toArray, List.getElem_cons_succ, List.getElem_cons_zero, List.setIfInBounds_toArray, List.set_cons_zero, List.set_cons_succ]))
                (refine q_val (v := ?_) (by rfl) ?_ ?_; rotate_left; (· (intro w hC; have c := (hC.kn.at 3 rfl).cell 0; simp only [List.getElem?_toArray, List.getElem?_cons_zero] at c; go_simp; try with_reducible rfl)); (try simp only [Act.put, List.getElem_toArray, List.getElem_cons_succ, List.getElem_cons_zero, List.setIfInBounds_toArray, List.set_cons_zero, List.set_cons_succ]))
                (refine q_val (v := ?_) (by rfl) ?_ ?_; rotate_left; (· (intro w hC; go_simp; try with_reducible rfl)); (try simp only [Act.put, List.getElem_toArray, List.getElem_cons_succ, List.getElem_cons_zero, List.setIfInBounds_toArray, List.set_cons_zero, List.set_cons_succ]))
                (refine q_call (v := .bool false) 9 #[.int .u32 (s : Nat), .int .i64 ((k : Int) - 1)] (by rfl) (fun w hC => by go_simp; try with_reducible rfl) (fun w hC => calls_in (calls_same (by have c := lhas_any s ((k : Int) - 1) w hs; rw [HB.out] at c; exact c)) (fun w2 hb => hC.next hb)) ?_; (try simp only [Act.put, List.getElem_toArray, List.getElem_cons_succ, List.getElem_cons_zero, List.setIfInBounds_toArray, List.set_cons_zero, List.set_cons_succ]))
                (refine q_val (v := ?_) (by rfl) ?_ ?_; rotate_left; (· (intro w hC; go_simp; try with_reducible rfl)); (try simp only [Act.put, List.getElem_toArray, List.getElem_cons_succ, List.getElem_cons_zero, List.setIfInBounds_toArray, List.set_cons_zero, List.set_cons_succ]))
                (refine q_val (v := ?_) (by rfl) ?_ ?_; rotate_left; (· (intro w hC; go_simp; try with_reducible rfl)); (try simp only [Act.put, List.getElem_toArray, List.getElem_cons_succ, List.getElem_cons_zero, List.setIfInBounds_toArray, List.set_cons_zero, List.set_cons_succ]))
                (refine q_val (v := ?_) (by rfl) ?_ ?_; rotate_left; (· (intro w hC; go_simp; try with_reducible rfl)); (try simp only [Act.put, List.getElem_toArray, List.getElem_cons_succ, List.getElem_cons_zero, List.setIfInBounds_toArray, List.set_cons_zero, List.set_cons_succ]))
                (refine q_val (v := ?_) (by rfl) ?_ ?_; rotate_left; (· (intro w hC; have e := EQ.out; go_simp; try with_reducible rfl)); (try simp only [Act.put, List.getElem_toArray, List.getElem_cons_succ, List.getElem_cons_zero, List.setIfInBounds_toArray, List.set_cons_zero, List.set_cons_succ]))
                (refine q_val (v := ?_) (by rfl) ?_ ?_; rotate_left; (· (intro w hC; go_simp; try with_reducible rfl)); (try simp only [Act.put, List.getElem_toArray, List.getElem_cons_succ, List.getElem_cons_zero, List.setIfInBounds_toArray, List.set_cons_zero, List.set_cons_succ]))
                (refine q_val (v := ?_) (by rfl) ?_ ?_; rotate_left; (· (intro w hC; go_simp; try with_reducible rfl)); (try simp only [Act.put, List.getElem_toArray, List.getElem_cons_succ, List.getElem_cons_zero, List.setIfInBounds_toArray, List.set_cons_zero, List.set_cons_succ]))
                (refine q_val (v := ?_) (by rfl) ?_ ?_; rotate_left; (· (intro w hC; have e := LO.out; go_simp; try with_reducible rfl)); (try simp only [Act.put, List.getElem_toArray, List.getElem_cons_succ, List.getElem_cons_zero, List.setIfInBounds_toArray, List.set_cons_zero, List.set_cons_succ]))
                (refine q_val (v := ?_) (by rfl) ?_ ?_; rotate_left; (· (intro w hC; go_simp; try with_reducible rfl)); (try simp only [Act.put, List.getElem_toArray, List.getElem_cons_succ, List.getElem_cons_zero, List.setIfInBounds_toArray, List.set_cons_zero, List.set_cons_succ]))
                (refine q_val (v := ?_) (by rfl) ?_ ?_; rotate_left; (· (intro w hC; go_simp; try with_reducible rfl)); (try simp only [Act.put, List.getElem_toArray, List.getElem_cons_succ, List.getElem_cons_zero, List.setIfInBounds_toArray, List.set_cons_zero, List.set_cons_succ]))
                (refine q_val (v := ?_) (by rfl) ?_ ?_; rotate_left; (· (intro w hC; go_simp; try with_reducible rfl)); (try simp only [Act.put, List.getElem_toArray, List.getElem_cons_succ, List.getElem_cons_zero, List.setIfInBounds_toArray, List.set_cons_zero, List.set_cons_succ]))
                (refine q_val (v := ?_) (by rfl) ?_ ?_; rotate_left; (· (intro w hC; have e := HI2.out; go_simp; try with_reducible rfl)); (try simp only [Act.put, List.getElem_toArray, List.getElem_cons_succ, List.getElem_cons_zero, List.setIfInBounds_toArray, List.set_cons_zero, List.set_cons_succ]))
                (refine q_val (v := ?_) (by rfl) ?_ ?_; rotate_left; (· (intro w hC; go_simp; try with_reducible rfl)); (try simp only [Act.put, List.getElem_toArray, List.getElem_cons_succ, List.getElem_cons_zero, List.setIfInBounds_toArray, List.set_cons_zero, List.set_cons_succ]))
                (refine q_val (v := ?_) (by rfl) ?_ ?_; rotate_left; (· (intro w hC; go_simp; try with_reducible rfl)); (try simp only [Act.put, List.getElem_toArray, List.getElem_cons_succ, List.getElem_cons_zero, List.setIfInBounds_toArray, List.set_cons_zero, List.set_cons_succ]))
                (refine q_val (v := ?_) (by rfl) ?_ ?_; rotate_left; (· (intro w hC; go_simp; try with_reducible rfl)); (try simp only [Act.put, List.getElem_toArray, List.getElem_cons_succ, List.getElem_cons_zero, List.setIfInBounds_toArray, List.set_cons_zero, List.set_cons_succ]))
                (refine q_val (v := ?_) (by rfl) ?_ ?_; rotate_left; (· (intro w hC; go_simp; try with_reducible rfl)); (try simp only [Act.put, List.getElem_toArray, List.getElem_cons_succ, List.getElem_cons_zero, List.setIfInBounds_toArray, List.set_cons_zero, List.set_cons_succ]))
                (refine q_val (v := ?_) (by rfl) ?_ ?_; rotate_left; (· (intro w hC; go_simp; try with_reducible rfl)); (try simp only [Act.put, List.getElem_toArray, List.getElem_cons_succ, List.getElem_cons_zero, List.setIfInBounds_toArray, List.set_cons_zero, List.set_cons_succ]))
                (refine q_val (v := ?_) (by rfl) ?_ ?_; rotate_left; (· (intro w hC; go_simp; try with_reducible rfl)); (try simp only [Act.put, List.getElem_toArray, List.getElem_cons_succ, List.getElem_cons_zero, List.setIfInBounds_toArray, List.set_cons_zero, List.set_cons_succ]))
                (refine q_val (v := ?_) (by rfl) ?_ ?_; rotate_left; (· (intro w hC; go_simp; try with_reducible rfl)); (try simp only [Act.put, List.getElem_toArray, List.getElem_cons_succ, List.getElem_cons_zero, List.setIfInBounds_toArray, List.set_cons_zero, List.set_cons_succ]))
                (refine q_call (v := .int .u32 (withoutS s p : Nat)) 12 #[.int .u32 (s : Nat), .int .i64 p] (by rfl) (fun w hC => by go_simp; try with_reducible rfl) (fun w hC => calls_in (calls_same (without_any s p w hs)) (fun w2 hb => hC.next hb)) ?_; (try simp only [Act.put, List.getElem_toArray, List.getElem_cons_succ, List.getElem_cons_zero, List.setIfInBounds_toArray, List.set_cons_zero, List.set_cons_succ]))
                (refine q_val (v := ?_) (by rfl) ?_ ?_; rotate_left; (· (intro w hC; go_simp; try with_reducible rfl)); (try simp only [Act.put, List.getElem_toArray, List.getElem_cons_succ, List.getElem_cons_zero, List.setIfInBounds_toArray, List.set_cons_zero, List.set_cons_succ]))
                (refine q_call (v := .bool false) 10 #[.int .u32 ((withoutS s p) : Nat), .int .i64 ((k : Int) - 1)] (by rfl) (fun w hC => by go_simp; try with_reducible rfl) (fun w hC => calls_in (calls_same (by have c := has_any (withoutS s p) ((k : Int) - 1) w HOL.out; rw [HO.out] at c; exact c)) (fun w2 hb => hC.next hb)) ?_; (try simp only [Act.put, List.getElem_toArray, List.getElem_cons_succ, List.getElem_cons_zero, List.setIfInBounds_toArray, List.set_cons_zero, List.set_cons_succ]))
                (refine q_val (v := ?_) (by rfl) ?_ ?_; rotate_left; (· (intro w hC; have c := (hC.kn.at 3 rfl).cell 0; simp only [List.getElem?_toArray, List.getElem?_cons_zero] at c; go_simp; try with_reducible rfl)); (try simp only [Act.put, List.getElem_toArray, List.getElem_cons_succ, List.getElem_cons_zero, List.setIfInBounds_toArray, List.set_cons_zero, List.set_cons_succ]))
                (refine q_val (v := ?_) (by rfl) ?_ ?_; rotate_left; (· (intro w hC; go_simp; try with_reducible rfl)); (try simp only [Act.put, List.getElem_toArray, List.getElem_cons_succ, List.getElem_cons_zero, List.setIfInBounds_toArray, List.set_cons_zero, List.set_cons_succ]))
                (refine q_call (v := .bool false) 9 #[.int .u32 (s : Nat), .int .i64 ((k : Int) - 1)] (by rfl) (fun w hC => by go_simp; try with_reducible rfl) (fun w hC => calls_in (calls_same (by have c := lhas_any s ((k : Int) - 1) w hs; rw [HB.out] at c; exact c)) (fun w2 hb => hC.next hb)) ?_; (try simp only [Act.put, List.getElem_toArray, List.getElem_cons_succ, List.getElem_cons_zero, List.setIfInBounds_toArray, List.set_cons_zero, List.set_cons_succ]))
                (refine q_val (v := ?_) (by rfl) ?_ ?_; rotate_left; (· (intro w hC; go_simp; try with_reducible rfl)); (try simp only [Act.put, List.getElem_toArray, List.getElem_cons_succ, List.getElem_cons_zero, List.setIfInBounds_toArray, List.set_cons_zero, List.set_cons_succ]))
                (refine q_skip (by rfl) ?_; (try simp only [Act.put, List.getElem_toArray, List.getElem_cons_succ, List.getElem_cons_zero, List.setIfInBounds_toArray, List.set_cons_zero, List.set_cons_succ]))
                (refine q_skip (by rfl) ?_; (try simp only [Act.put, List.getElem_toArray, List.getElem_cons_succ, List.getElem_cons_zero, List.setIfInBounds_toArray, List.set_cons_zero, List.set_cons_succ]))
                (refine q_skip (by rfl) ?_; (try simp only [Act.put, List.getElem_toArray, List.getElem_cons_succ, List.getElem_cons_zero, List.setIfInBounds_toArray, List.set_cons_zero, List.set_cons_succ]))
                (refine q_val (v := ?_) (by rfl) ?_ ?_; rotate_left; (· (intro w hC; go_simp; try with_reducible rfl)); (try simp only [Act.put, List.getElem_toArray, List.getElem_cons_succ, List.getElem_cons_zero, List.setIfInBounds_toArray, List.set_cons_zero, List.set_cons_succ]))
                (refine q_val (v := ?_) (by rfl) ?_ ?_; rotate_left; (· (intro w hC; go_simp; try with_reducible rfl)); (try simp only [Act.put, List.getElem_toArray, List.getElem_cons_succ, List.getElem_cons_zero, List.setIfInBounds_toArray, List.set_cons_zero, List.set_cons_succ]))
                (refine q_val (v := ?_) (by rfl) ?_ ?_; rotate_left; (· (intro w hC; go_simp; try with_reducible rfl)); (try simp only [Act.put, List.getElem_toArray, List.getElem_cons_succ, List.getElem_cons_zero, List.setIfInBounds_toArray, List.set_cons_zero, List.set_cons_succ]))
                refine wpQuiet_nil ?_
                intro w5 hC5
                have HC5 := Lib.hid hC5
                clear hC5 HC
                have c0 := (HC5.out.kn.at 3 rfl).cell 0
                simp only [List.getElem?_toArray, List.getElem?_cons_zero] at c0
                go_wp2_with (go_at_call 9; ((with_reducible refine (lhas_any s _ _ hs).mono ?_); rintro e w6 ⟨rfl, rfl⟩; rw [HB.out]))
                go_roundw
                case rel => exact ⟨k + 1, by omega, by go_num, by rw [cntL_no HB.out], ⟨_, rfl, HBB.out.trans ⟨fun h1 j hj hj2 => by
                  by_cases c : j = k
                  · subst c; rw [HB.out] at hj2; cases hj2
                  · exact h1 j (by omega) hj2, fun h1 j hj => h1 j (by omega)⟩⟩, HC5.out⟩
                case measure => simp [intOf]; omega
            · have LO := Lib.hid (show decide (1 ≤ p) = false by simpa using hl)
              have HPORT := Lib.hid (show isPort p = false by unfold isPort; rw [LO.out]; rfl)
              clear hl
              have HW := Lib.hid (show hasB (withS s p) ((k : Int) - 1) = false by rw [has_withS, HB.out, HE.out, HPORT.out]; rfl)
              have HO := Lib.hid (show hasB (withoutS s p) ((k : Int) - 1) = false by rw [has_withoutS, HB.out, HNE.out]; rfl)
              refine wp_region_quiet (C := Hc w [(h + 1, #[.int .i64 (lastL (portsL s))], 3), (h, #[.int .i64 ((portsL s).length : Nat)], 3), (g + 1, #[.bool false], 4), (g, #[.int .u32 (s : Nat)], 22)] D) (by kernel_rfl) (by kernel_rfl) HC.out.drew ?_
              (refine q_val (v := ?_) (by rfl) ?_ ?_; rotate_left; (· (intro w hC; go_simp; try with_reducible rfl)); (try simp only [Act.put, List.getElem_toArray, List.getElem_cons_succ, List.getElem_cons_zero, List.setIfInBounds_toArray, List.set_cons_zero, List.set_cons_succ]))
              (refine q_val (v := ?_) (by rfl) ?_ ?_; rotate_left; (· (intro w hC; go_simp; try with_reducible rfl)); (try simp only [Act.put, List.getElem_toArray, List.getElem_cons_succ, List.getElem_cons_zero, List.setIfInBounds_toArray, List.set_cons_zero, List.set_cons_succ]))
              (refine q_call (v := .bool false) 10 #[.int .u32 (s : Nat), .int .i64 ((k : Int) - 1)] (by rfl) (fun w hC => by go_simp; try with_reducible rfl) (fun w hC => calls_in (calls_same (by have c := has_any s ((k : Int) - 1) w hs; rw [HB.out] at c; exact c)) (fun w2 hb => hC.next hb)) ?_; (try simp only [Act.put, List.getElem_toArray, List.getElem_cons_succ, List.getElem_cons_zero, List.setIfInBounds_toArray, List.set_cons_zero, List.set_cons_succ]))
              (refine q_val (v := ?_) (by rfl) ?_ ?_; rotate_left; (· (intro w hC; have c := (hC.kn.at 3 rfl).cell 0; simp only [List.getElem?_toArray, List.getElem?_cons_zero] at c; go_simp; try with_reducible rfl)); (try simp only [Act.put, List.getElem_toArray, List.getElem_cons_succ, List.getElem_cons_zero, List.setIfInBounds_toArray, List.set_cons_zero, List.set_cons_succ]))
              (refine q_val (v := ?_) (by rfl) ?_ ?_; rotate_left; (· (intro w hC; go_simp; try with_reducible rfl)); (try simp only [Act.put, List.getElem_toArray, List.getElem_cons_succ, List.getElem_cons_zero, List.setIfInBounds_toArray, List.set_cons_zero, List.set_cons_succ]))
              (refine q_call (v := .bool false) 9 #[.int .u32 (s : Nat), .int .i64 ((k : Int) - 1)] (by rfl) (fun w hC => by go_simp; try with_reducible rfl) (fun w hC => calls_in (calls_same (by have c := lhas_any s ((k : Int) - 1) w hs; rw [HB.out] at c; exact c)) (fun w2 hb => hC.next hb)) ?_; (try simp only [Act.put, List.getElem_toArray, List.getElem_cons_succ, List.getElem_cons_zero, List.setIfInBounds_toArray, List.set_cons_zero, List.set_cons_succ]))
              (refine q_val (v := ?_) (by rfl) ?_ ?_; rotate_left; (· (intro w hC; go_simp; try with_reducible rfl)); (try simp only [Act.put, List.getElem_toArray, List.getElem_cons_succ, List.getElem_cons_zero, List.setIfInBounds_toArray, List.set_cons_zero, List.set_cons_succ]))
              (refine q_val (v := ?_) (by rfl) ?_ ?_; rotate_left; (· (intro w hC; go_simp; try with_reducible rfl)); (try simp only [Act.put, List.getElem_toArray, List.getElem_cons_succ, List.getElem_cons_zero, List.setIfInBounds_toArray, List.set_cons_zero, List.set_cons_succ]))
              (refine q_val (v := ?_) (by rfl) ?_ ?_; rotate_left; (· (intro w hC; go_simp; try with_reducible rfl)); (try simp only [Act.put, List.getElem_toArray, List.getElem_cons_succ, List.getElem_cons_zero, List.setIfInBounds_toArray, List.set_cons_zero, List.set_cons_succ]))
              (refine q_val (v := ?_) (by rfl) ?_ ?_; rotate_left; (· (intro w hC; go_simp; try with_reducible rfl)); (try simp only [Act.put, List.getElem_toArray, List.getElem_cons_succ, List.getElem_cons_zero, List.setIfInBounds_toArray, List.set_cons_zero, List.set_cons_succ]))
              (refine q_call (v := .int .u32 (withS s p : Nat)) 11 #[.int .u32 (s : Nat), .int .i64 p] (by rfl) (fun w hC => by go_simp; try with_reducible rfl) (fun w hC => calls_in (calls_same (with_any s p w hs)) (fun w2 hb => hC.next hb)) ?_; (try simp only [Act.put, List.getElem_toArray, List.getElem_cons_succ, List.getElem_cons_zero, List.setIfInBounds_toArray, List.set_cons_zero, List.set_cons_succ]))
              (refine q_val (v := ?_) (by rfl) ?_ ?_; rotate_left; (· (intro w hC; go_simp; try with_reducible rfl)); (try simp only [Act.put, List.getElem_toArray, List.getElem_cons_succ, List.getElem_cons_zero, List.setIfInBounds_toArray, List.set_cons_zero, List.set_cons_succ]))
              (refine q_call (v := .bool false) 10 #[.int .u32 ((withS s p) : Nat), .int .i64 ((k : Int) - 1)] (by rfl) (fun w hC => by go_simp; try with_reducible rfl) (fun w hC => calls_in (calls_same (by have c := has_any (withS s p) ((k : Int) - 1) w HWL.out; rw [HW.out] at c; exact c)) (fun w2 hb => hC.next hb)) ?_; (try simp only [Act.put, List.getElem_toArray, List.getElem_cons_succ, List.getElem_cons_zero, List.setIfInBounds_toArray, List.set_cons_zero, List.set_cons_succ]))
              (refine q_val (v := ?_) (by rfl) ?_ ?_; rotate_left; (· (intro w hC; have c := (hC.kn.at 3 rfl).cell 0; simp only [List.getElem?_toArray, List.getElem?_cons_zero] at c; go_simp; try with_reducible rfl)); (try simp only [Act.put, List.getElem_toArray, List.getElem_cons_succ, List.getElem_cons_zero, List.setIfInBounds_toArray, List.set_cons_zero, List.set_cons_succ]))
              (refine q_val (v := ?_) (by rfl) ?_ ?_; rotate_left; (· (intro w hC; go_simp; try with_reducible rfl)); (try simp only [Act.put, List.getElem_toArray, List.getElem_cons_succ, List.getElem_cons_zero, List.setIfInBounds_toArray, List.set_cons_zero, List.set_cons_succ]))
              (refine q_call (v := .bool false) 9 #[.int .u32 (s : Nat), .int .i64 ((k : Int) - 1)] (by rfl) (fun w hC => by go_simp; try with_reducible rfl) (fun w hC => calls_in (calls_same (by have c := lhas_any s ((k : Int) - 1) w hs; rw [HB.out] at c; exact c)) (fun w2 hb => hC.next hb)) ?_; (try simp only [Act.put, List.getElem_toArray, List.getElem_cons_succ, List.getElem_cons_zero, List.setIfInBounds_toArray, List.set_cons_zero, List.set_cons_succ]))
              (refine q_val (v := ?_) (by rfl) ?_ ?_; rotate_left; (· (intro w hC; go_simp; try with_reducible rfl)); (try simp only [Act.put, List.getElem_toArray, List.getElem_cons_succ, List.getElem_cons_zero, List.setIfInBounds_toArray, List.set_cons_zero, List.set_cons_succ]))
              (refine q_val (v := ?_) (by rfl) ?_ ?_; rotate_left; (· (intro w hC; go_simp; try with_reducible rfl)); (try simp only [Act.put, List.getElem_toArray, List.getElem_cons_succ, List.getElem_cons_zero, List.setIfInBounds_toArray, List.set_cons_zero, List.set_cons_succ]))
              (refine q_val (v := ?_) (by rfl) ?_ ?_; rotate_left; (· (intro w hC; go_simp; try with_reducible rfl)); (try simp only [Act.put, List.getElem_toArray, List.getElem_cons_succ, List.getElem_cons_zero, List.setIfInBounds_toArray, List.set_cons_zero, List.set_cons_succ]))
              (refine q_val (v := ?_) (by rfl) ?_ ?_; rotate_left; (· (intro w hC; have e := EQ.out; go_simp; try with_reducible rfl)); (try simp only [Act.put, List.getElem_toArray, List.getElem_cons_succ, List.getElem_cons_zero, List.setIfInBounds_toArray, List.set_cons_zero, List.set_cons_succ]))
              (refine q_val (v := ?_) (by rfl) ?_ ?_; rotate_left; (· (intro w hC; go_simp; try with_reducible rfl)); (try simp only [Act.put, List.getElem_toArray, List.getElem_cons_succ, List.getElem_cons_zero, List.setIfInBounds_toArray, List.set_cons_zero, List.set_cons_succ]))
              (refine q_val (v := ?_) (by rfl) ?_ ?_; rotate_left; (· (intro w hC; go_simp; try with_reducible rfl)); (try simp only [Act.put, List.getElem_toArray, List.getElem_cons_succ, List.getElem_cons_zero, List.setIfInBounds_toArray, List.set_cons_zero, List.set_cons_succ]))
              (refine q_val (v := ?_) (by rfl) ?_ ?_; rotate_left; (· (intro w hC; have e := LO.out; go_simp; try with_reducible rfl)); (try simp only [Act.put, List.getElem_toArray, List.getElem_cons_succ, List.getElem_cons_zero, List.setIfInBounds_toArray, List.set_cons_zero, List.set_cons_succ]))
              (refine q_val (v := ?_) (by rfl) ?_ ?_; rotate_left; (· (intro w hC; go_simp; try with_reducible rfl)); (try simp only [Act.put, List.getElem_toArray, List.getElem_cons_succ, List.getElem_cons_zero, List.setIfInBounds_toArray, List.set_cons_zero, List.set_cons_succ]))
              (refine q_val (v := ?_) (by rfl) ?_ ?_; rotate_left; (· (intro w hC; go_simp; try with_reducible rfl)); (try simp only [Act.put, List.getElem_toArray, List.getElem_cons_succ, List.getElem_cons_zero, List.setIfInBounds_toArray, List.set_cons_zero, List.set_cons_succ]))
              (refine q_skip (by rfl) ?_; (try simp only [Act.put, List.getElem_toArray, List.getElem_cons_succ, List.getElem_cons_zero, List.setIfInBounds_toArray, List.set_cons_zero, List.set_cons_succ]))
              (refine q_skip (by rfl) ?_; (try simp only [Act.put, List.getElem_toArray, List.getElem_cons_succ, List.getElem_cons_zero, List.setIfInBounds_toArray, List.set_cons_zero, List.set_cons_succ]))
              (refine q_val (v := ?_) (by rfl) ?_ ?_; rotate_left; (· (intro w hC; go_simp; try with_reducible rfl)); (try simp only [Act.put, List.getElem_toArray, List.getElem_cons_succ, List.getElem_cons_zero, List.setIfInBounds_toArray, List.set_cons_zero, List.set_cons_succ]))
              (refine q_val (v := ?_) (by rfl) ?_ ?_; rotate_left; (· (intro w hC; go_simp; try with_reducible rfl)); (try simp only [Act.put, List.getElem_toArray, List.getElem_cons_succ, List.getElem_cons_zero, List.setIfInBounds_toArray, List.set_cons_zero, List.set_cons_succ]))
              (refine q_val (v := ?_) (by rfl) ?_ ?_; rotate_left; (· (intro w hC; go_simp; try with_reducible rfl)); (try simp only [Act.put, List.getElem_toArray, List.getElem_cons_succ, List.getElem_cons_zero, List.setIfInBounds_toArray, List.set_cons_zero, List.set_cons_succ]))
              (refine q_val (v := ?_) (by rfl) ?_ ?_; rotate_left; (· (intro w hC; go_simp; try with_reducible rfl)); (try simp only [Act.put, List.getElem_toArray, List.getElem_cons_succ, List.getElem_cons_zero, List.setIfInBounds_toArray, List.set_cons_zero, List.set_cons_succ]))
              (refine q_val (v := ?_) (by rfl) ?_ ?_; rotate_left; (· (intro w hC; go_simp; try with_reducible rfl)); (try simp only [Act.put, List.getElem_toArray, List.getElem_cons_succ, List.getElem_cons_zero, List.setIfInBounds_toArray, List.set_cons_zero, List.set_cons_succ]))
              (refine q_val (v := ?_) (by rfl) ?_ ?_; rotate_left; (· (intro w hC; go_simp; try with_reducible rfl)); (try simp only [Act.put, List.getElem_toArray, List.getElem_cons_succ, List.getElem_cons_zero, List.setIfInBounds_toArray, List.set_cons_zero, List.set_cons_succ]))
              (refine q_val (v := ?_) (by rfl) ?_ ?_; rotate_left; (· (intro w hC; go_simp; try with_reducible rfl)); (try simp only [Act.put, List.getElem_toArray, List.getElem_cons_succ, List.getElem_cons_zero, List.setIfInBounds_toArray, List.set_cons_zero, List.set_cons_succ]))
              (refine q_call (v := .int .u32 (withoutS s p : Nat)) 12 #[.int .u32 (s : Nat), .int .i64 p] (by rfl) (fun w hC => by go_simp; try with_reducible rfl) (fun w hC => calls_in (calls_same (without_any s p w hs)) (fun w2 hb => hC.next hb)) ?_; (try simp only [Act.put, List.getElem_toArray, List.getElem_cons_succ, List.getElem_cons_zero, List.setIfInBounds_toArray, List.set_cons_zero, List.set_cons_succ]))
              (refine q_val (v := ?_) (by rfl) ?_ ?_; rotate_left; (· (intro w hC; go_simp; try with_reducible rfl)); (try simp only [Act.put, List.getElem_toArray, List.getElem_cons_succ, List.getElem_cons_zero, List.setIfInBounds_toArray, List.set_cons_zero, List.set_cons_succ]))
              (refine q_call (v := .bool false) 10 #[.int .u32 ((withoutS s p) : Nat), .int .i64 ((k : Int) - 1)] (by rfl) (fun w hC => by go_simp; try with_reducible rfl) (fun w hC => calls_in (calls_same (by have c := has_any (withoutS s p) ((k : Int) - 1) w HOL.out; rw [HO.out] at c; exact c)) (fun w2 hb => hC.next hb)) ?_; (try simp only [Act.put, List.getElem_toArray, List.getElem_cons_succ, List.getElem_cons_zero, List.setIfInBounds_toArray, List.set_cons_zero, List.set_cons_succ]))
              (refine q_val (v := ?_) (by rfl) ?_ ?_; rotate_left; (· (intro w hC; have c := (hC.kn.at 3 rfl).cell 0; simp only [List.getElem?_toArray, List.getElem?_cons_zero] at c; go_simp; try with_reducible rfl)); (try simp only [Act.put, List.getElem_toArray, List.getElem_cons_succ, List.getElem_cons_zero, List.setIfInBounds_toArray, List.set_cons_zero, List.set_cons_succ]))
              (refine q_val (v := ?_) (by rfl) ?_ ?_; rotate_left; (· (intro w hC; go_simp; try with_reducible rfl)); (try simp only [Act.put, List.getElem_toArray, List.getElem_cons_succ, List.getElem_cons_zero, List.setIfInBounds_toArray, List.set_cons_zero, List.set_cons_succ]))
              (refine q_call (v := .bool false) 9 #[.int .u32 (s : Nat), .int .i64 ((k : Int) - 1)] (by rfl) (fun w hC => by go_simp; try with_reducible rfl) (fun w hC => calls_in (calls_same (by have c := lhas_any s ((k : Int) - 1) w hs; rw [HB.out] at c; exact c)) (fun w2 hb => hC.next hb)) ?_; (try simp only [Act.put, List.getElem_toArray, List.getElem_cons_succ, List.getElem_cons_zero, List.setIfInBounds_toArray, List.set_cons_zero, List.set_cons_succ]))
              (refine q_val (v := ?_) (by rfl) ?_ ?_; rotate_left; (· (intro w hC; go_simp; try with_reducible rfl)); (try simp only [Act.put, List.getElem_toArray, List.getElem_cons_succ, List.getElem_cons_zero, List.setIfInBounds_toArray, List.set_cons_zero, List.set_cons_succ]))
              (refine q_skip (by rfl) ?_; (try simp only [Act.put, List.getElem_toArray, List.getElem_cons_succ, List.getElem_cons_zero, List.setIfInBounds_toArray, List.set_cons_zero, List.set_cons_succ]))
              (refine q_skip (by rfl) ?_; (try simp only [Act.put, List.getElem_toArray, List.getElem_cons_succ, List.getElem_cons_zero, List.setIfInBounds_toArray, List.set_cons_zero, List.set_cons_succ]))
              (refine q_skip (by rfl) ?_; (try simp only [Act.put, List.getElem_toArray, List.getElem_cons_succ, List.getElem_cons_zero, List.setIfInBounds_toArray, List.set_cons_zero, List.set_cons_succ]))
              (refine q_val (v := ?_) (by rfl) ?_ ?_; rotate_left; (· (intro w hC; go_simp; try with_reducible rfl)); (try simp only [Act.put, List.getElem_toArray, List.getElem_cons_succ, List.getElem_cons_zero, List.setIfInBounds_toArray, List.set_cons_zero, List.set_cons_succ]))
              (refine q_val (v := ?_) (by rfl) ?_ ?_; rotate_left; (· (intro w hC; go_simp; try with_reducible rfl)); (try simp only [Act.put, List.getElem_toArray, List.getElem_cons_succ, List.getElem_cons_zero, List.setIfInBounds_toArray, List.set_cons_zero, List.set_cons_succ]))
              (refine q_val (v := ?_) (by rfl) ?_ ?_; rotate_left; (· (intro w hC; go_simp; try with_reducible rfl)); (try simp only [Act.put, List.getElem_toArray, List.getElem_cons_succ, List.getElem_cons_zero, List.setIfInBounds_toArray, List.set_cons_zero, List.set_cons_succ]))
              refine wpQuiet_nil ?_
              intro w5 hC5
              have HC5 := Lib.hid hC5
              clear hC5 HC
              have c0 := (HC5.out.kn.at 3 rfl).cell 0
              simp only [List.getElem?_toArray, List.getElem?_cons_zero] at c0
              go_wp2_with (go_at_call 9; ((with_reducible refine (lhas_any s _ _ hs).mono ?_); rintro e w6 ⟨rfl, rfl⟩; rw [HB.out]))
              go_roundw
              case rel => exact ⟨k + 1, by omega, by go_num, by rw [cntL_no HB.out], ⟨_, rfl, HBB.out.trans ⟨fun h1 j hj hj2 => by
                by_cases c : j = k
                · subst c; rw [HB.out] at hj2; cases hj2
                · exact h1 j (by omega) hj2, fun h1 j hj => h1 j (by omega)⟩⟩, HC5.out⟩
              case measure => simp [intOf]; omega
          · have HE := Lib.hid (show decide ((k : Int) - 1 = p) = false by simpa using he)
            have HNE := Lib.hid (show decide ((k : Int) - 1 ≠ p) = true by simpa using he)
            have EQ := Lib.hid (show ((k : Int) - 1 == p) = false by simpa using he)
            obtain ⟨P, hP⟩ : ∃ P, isPort p = P := ⟨_, rfl⟩
            have HPORT := Lib.hid hP
            clear he hP
            have HW := Lib.hid (show hasB (withS s p) ((k : Int) - 1) = false by rw [has_withS, HB.out, HE.out, HPORT.out]; rfl)
            have HO := Lib.hid (show hasB (withoutS s p) ((k : Int) - 1) = false by rw [has_withoutS, HB.out, HNE.out]; rfl)
            refine wp_region_quiet (C := Hc w [(h + 1, #[.int .i64 (lastL (portsL s))], 3), (h, #[.int .i64 ((portsL s).length : Nat)], 3), (g + 1, #[.bool false], 4), (g, #[.int .u32 (s : Nat)], 22)] D) (by kernel_rfl) (by kernel_rfl) HC.out.drew ?_
            (refine q_val (v := ?_) (by rfl) ?_ ?_; rotate_left; (· (intro w hC; go_simp; try with_reducible rfl)); (try simp only [Act.put, List.getElem_toArray, List.getElem_cons_succ, List.getElem_cons_zero, List.setIfInBounds_toArray, List.set_cons_zero, List.set_cons_succ]))
            (refine q_val (v := ?_) (by rfl) ?_ ?_; rotate_left; (· (intro w hC; go_simp; try with_reducible rfl)); (try simp only [Act.put, List.getElem_toArray, List.getElem_cons_succ, List.getElem_cons_zero, List.setIfInBounds_toArray, List.set_cons_zero, List.set_cons_succ]))
            (refine q_call (v := .bool false) 10 #[.int .u32 (s : Nat), .int .i64 ((k : Int) - 1)] (by rfl) (fun w hC => by go_simp; try with_reducible rfl) (fun w hC => calls_in (calls_same (by have c := has_any s ((k : Int) - 1) w hs; rw [HB.out] at c; exact c)) (fun w2 hb => hC.next hb)) ?_; (try simp only [Act.put, List.getElem_toArray, List.getElem_cons_succ, List.getElem_cons_zero, List.setIfInBounds_toArray, List.set_cons_zero, List.set_cons_succ]))
            (refine q_val (v := ?_) (by rfl) ?_ ?_; rotate_left; (· (intro w hC; have c := (hC.kn.at 3 rfl).cell 0; simp only [List.getElem?_toArray, List.getElem?_cons_zero] at c; go_simp; try with_reducible rfl)); (try simp only [Act.put, List.getElem_toArray, List.getElem_cons_succ, List.getElem_cons_zero, List.setIfInBounds_toArray, List.set_cons_zero, List.set_cons_succ]))
            (refine q_val (v := ?_) (by rfl) ?_ ?_; rotate_left; (· (intro w hC; go_simp; try with_reducible rfl)); (try simp only [Act.put, List.getElem_toArray, List.getElem_cons_succ, List.getElem_cons_zero, List.setIfInBounds_toArray, List.set_cons_zero, List.set_cons_succ]))
            (refine q_call (v := .bool false) 9 #[.int .u32 (s : Nat), .int .i64 ((k : Int) - 1)] (by rfl) (fun w hC => by go_simp; try with_reducible rfl) (fun w hC => calls_in (calls_same (by have c := lhas_any s ((k : Int) - 1) w hs; rw [HB.out] at c; exact c)) (fun w2 hb => hC.next hb)) ?_; (try simp only [Act.put, List.getElem_toArray, List.getElem_cons_succ, List.getElem_cons_zero, List.setIfInBounds_toArray, List.set_cons_zero, List.set_cons_succ]))
            (refine q_val (v := ?_) (by rfl) ?_ ?_; rotate_left; (· (intro w hC; go_simp; try with_reducible rfl)); (try simp only [Act.put, List.getElem_toArray, List.getElem_cons_succ, List.getElem_cons_zero, List.setIfInBounds_toArray, List.set_cons_zero, List.set_cons_succ]))
            (refine q_val (v := ?_) (by rfl) ?_ ?_; rotate_left; (· (intro w hC; go_simp; try with_reducible rfl)); (try simp only [Act.put, List.getElem_toArray, List.getElem_cons_succ, List.getElem_cons_zero, List.setIfInBounds_toArray, List.set_cons_zero, List.set_cons_succ]))
            (refine q_val (v := ?_) (by rfl) ?_ ?_; rotate_left; (· (intro w hC; go_simp; try with_reducible rfl)); (try simp only [Act.put, List.getElem_toArray, List.getElem_cons_succ, List.getElem_cons_zero, List.setIfInBounds_toArray, List.set_cons_zero, List.set_cons_succ]))
            (refine q_val (v := ?_) (by rfl) ?_ ?_; rotate_left; (· (intro w hC; go_simp; try with_reducible rfl)); (try simp only [Act.put, List.getElem_toArray, List.getElem_cons_succ, List.getElem_cons_zero, List.setIfInBounds_toArray, List.set_cons_zero, List.set_cons_succ]))
            (refine q_call (v := .int .u32 (withS s p : Nat)) 11 #[.int .u32 (s : Nat), .int .i64 p] (by rfl) (fun w hC => by go_simp; try with_reducible rfl) (fun w hC => calls_in (calls_same (with_any s p w hs)) (fun w2 hb => hC.next hb)) ?_; (try simp only [Act.put, List.getElem_toArray, List.getElem_cons_succ, List.getElem_cons_zero, List.setIfInBounds_toArray, List.set_cons_zero, List.set_cons_succ]))
            (refine q_val (v := ?_) (by rfl) ?_ ?_; rotate_left; (· (intro w hC; go_simp; try with_reducible rfl)); (try simp only [Act.put, List.getElem_toArray, List.getElem_cons_succ, List.getElem_cons_zero, List.setIfInBounds_toArray, List.set_cons_zero, List.set_cons_succ]))
            (refine q_call (v := .bool false) 10 #[.int .u32 ((withS s p) : Nat), .int .i64 ((k : Int) - 1)] (by rfl) (fun w hC => by go_simp; try with_reducible rfl) (fun w hC => calls_in (calls_same (by have c := has_any (withS s p) ((k : Int) - 1) w HWL.out; rw [HW.out] at c; exact c)) (fun w2 hb => hC.next hb)) ?_; (try simp only [Act.put, List.getElem_toArray, List.getElem_cons_succ, List.getElem_cons_zero, List.setIfInBounds_toArray, List.set_cons_zero, List.set_cons_succ]))
            (refine q_val (v := ?_) (by rfl) ?_ ?_; rotate_left; (· (intro w hC; have c := (hC.kn.at 3 rfl).cell 0; simp only [List.getElem?_toArray, List.getElem?_cons_zero] at c; go_simp; try with_reducible rfl)); (try simp only [Act.put, List.getElem_toArray, List.getElem_cons_succ, List.getElem_cons_zero, List.setIfInBounds_toArray, List.set_cons_zero, List.set_cons_succ]))
            (refine q_val (v := ?_) (by rfl) ?_ ?_; rotate_left; (· (intro w hC; go_simp; try with_reducible rfl)); (try simp only [Act.put, List.getElem_toArray, List.getElem_cons_succ, List.getElem_cons_zero, List.setIfInBounds_toArray, List.set_cons_zero, List.set_cons_succ]))
            (refine q_call (v := .bool false) 9 #[.int .u32 (s : Nat), .int .i64 ((k : Int) - 1)] (by rfl) (fun w hC => by go_simp; try with_reducible rfl) (fun w hC => calls_in (calls_same (by have c := lhas_any s ((k : Int) - 1) w hs; rw [HB.out] at c; exact c)) (fun w2 hb => hC.next hb)) ?_; (try simp only [Act.put, List.getElem_toArray, List.getElem_cons_succ, List.getElem_cons_zero, List.setIfInBounds_toArray, List.set_cons_zero, List.set_cons_succ]))
            (refine q_val (v := ?_) (by rfl) ?_ ?_; rotate_left; (· (intro w hC; go_simp; try with_reducible rfl)); (try simp only [Act.put, List.getElem_toArray, List.getElem_cons_succ, List.getElem_cons_zero, List.setIfInBounds_toArray, List.set_cons_zero, List.set_cons_succ]))
            (refine q_val (v := ?_) (by rfl) ?_ ?_; rotate_left; (· (intro w hC; go_simp; try with_reducible rfl)); (try simp only [Act.put, List.getElem_toArray, List.getElem_cons_succ, List.getElem_cons_zero, List.setIfInBounds_toArray, List.set_cons_zero, List.set_cons_succ]))
            (refine q_val (v := ?_) (by rfl) ?_ ?_; rotate_left; (· (intro w hC; go_simp; try with_reducible rfl)); (try simp only [Act.put, List.getElem_toArray, List.getElem_cons_succ, List.getElem_cons_zero, List.setIfInBounds_toArray, List.set_cons_zero, List.set_cons_succ]))
            (refine q_val (v := ?_) (by rfl) ?_ ?_; rotate_left; (· (intro w hC; have e := EQ.out; go_simp; try with_reducible rfl)); (try simp only [Act.put, List.getElem_toArray, List.getElem_cons_succ, List.getElem_cons_zero, List.setIfInBounds_toArray, List.set_cons_zero, List.set_cons_succ]))
            (refine q_val (v := ?_) (by rfl) ?_ ?_; rotate_left; (· (intro w hC; go_simp; try with_reducible rfl)); (try simp only [Act.put, List.getElem_toArray, List.getElem_cons_succ, List.getElem_cons_zero, List.setIfInBounds_toArray, List.set_cons_zero, List.set_cons_succ]))
            (refine q_skip (by rfl) ?_; (try simp only [Act.put, List.getElem_toArray, List.getElem_cons_succ, List.getElem_cons_zero, List.setIfInBounds_toArray, List.set_cons_zero, List.set_cons_succ]))
            (refine q_skip (by rfl) ?_; (try simp only [Act.put, List.getElem_toArray, List.getElem_cons_succ, List.getElem_cons_zero, List.setIfInBounds_toArray, List.set_cons_zero, List.set_cons_succ]))
            (refine q_val (v := ?_) (by rfl) ?_ ?_; rotate_left; (· (intro w hC; go_simp; try with_reducible rfl)); (try simp only [Act.put, List.getElem_toArray, List.getElem_cons_succ, List.getElem_cons_zero, List.setIfInBounds_toArray, List.set_cons_zero, List.set_cons_succ]))
            (refine q_val (v := ?_) (by rfl) ?_ ?_; rotate_left; (· (intro w hC; go_simp; try with_reducible rfl)); (try simp only [Act.put, List.getElem_toArray, List.getElem_cons_succ, List.getElem_cons_zero, List.setIfInBounds_toArray, List.set_cons_zero, List.set_cons_succ]))
            (refine q_skip (by rfl) ?_; (try simp only [Act.put, List.getElem_toArray, List.getElem_cons_succ, List.getElem_cons_zero, List.setIfInBounds_toArray, List.set_cons_zero, List.set_cons_succ]))
            (refine q_skip (by rfl) ?_; (try simp only [Act.put, List.getElem_toArray, List.getElem_cons_succ, List.getElem_cons_zero, List.setIfInBounds_toArray, List.set_cons_zero, List.set_cons_succ]))
            (refine q_val (v := ?_) (by rfl) ?_ ?_; rotate_left; (· (intro w hC; go_simp; try with_reducible rfl)); (try simp only [Act.put, List.getElem_toArray, List.getElem_cons_succ, List.getElem_cons_zero, List.setIfInBounds_toArray, List.set_cons_zero, List.set_cons_succ]))
            (refine q_val (v := ?_) (by rfl) ?_ ?_; rotate_left; (· (intro w hC; go_simp; try with_reducible rfl)); (try simp only [Act.put, List.getElem_toArray, List.getElem_cons_succ, List.getElem_cons_zero, List.setIfInBounds_toArray, List.set_cons_zero, List.set_cons_succ]))
            (refine q_val (v := ?_) (by rfl) ?_ ?_; rotate_left; (· (intro w hC; go_simp; try with_reducible rfl)); (try simp only [Act.put, List.getElem_toArray, List.getElem_cons_succ, List.getElem_cons_zero, List.setIfInBounds_toArray, List.set_cons_zero, List.set_cons_succ]))
            (refine q_val (v := ?_) (by rfl) ?_ ?_; rotate_left; (· (intro w hC; go_simp; try with_reducible rfl)); (try simp only [Act.put, List.getElem_toArray, List.getElem_cons_succ, List.getElem_cons_zero, List.setIfInBounds_toArray, List.set_cons_zero, List.set_cons_succ]))
            (refine q_val (v := ?_) (by rfl) ?_ ?_; rotate_left; (· (intro w hC; go_simp; try with_reducible rfl)); (try simp only [Act.put, List.getElem_toArray, List.getElem_cons_succ, List.getElem_cons_zero, List.setIfInBounds_toArray, List.set_cons_zero, List.set_cons_succ]))
            (refine q_val (v := ?_) (by rfl) ?_ ?_; rotate_left; (· (intro w hC; go_simp; try with_reducible rfl)); (try simp only [Act.put, List.getElem_toArray, List.getElem_cons_succ, List.getElem_cons_zero, List.setIfInBounds_toArray, List.set_cons_zero, List.set_cons_succ]))
            (refine q_val (v := ?_) (by rfl) ?_ ?_; rotate_left; (· (intro w hC; go_simp; try with_reducible rfl)); (try simp only [Act.put, List.getElem_toArray, List.getElem_cons_succ, List.getElem_cons_zero, List.setIfInBounds_toArray, List.set_cons_zero, List.set_cons_succ]))
            (refine q_call (v := .int .u32 (withoutS s p : Nat)) 12 #[.int .u32 (s : Nat), .int .i64 p] (by rfl) (fun w hC => by go_simp; try with_reducible rfl) (fun w hC => calls_in (calls_same (without_any s p w hs)) (fun w2 hb => hC.next hb)) ?_; (try simp only [Act.put, List.getElem_toArray, List.getElem_cons_succ, List.getElem_cons_zero, List.setIfInBounds_toArray, List.set_cons_zero, List.set_cons_succ]))
            (refine q_val (v := ?_) (by rfl) ?_ ?_; rotate_left; (· (intro w hC; go_simp; try with_reducible rfl)); (try simp only [Act.put, List.getElem_toArray, List.getElem_cons_succ, List.getElem_cons_zero, List.setIfInBounds_toArray, List.set_cons_zero, List.set_cons_succ]))
            (refine q_call (v := .bool false) 10 #[.int .u32 ((withoutS s p) : Nat), .int .i64 ((k : Int) - 1)] (by rfl) (fun w hC => by go_simp; try with_reducible rfl) (fun w hC => calls_in (calls_same (by have c := has_any (withoutS s p) ((k : Int) - 1) w HOL.out; rw [HO.out] at c; exact c)) (fun w2 hb => hC.next hb)) ?_; (try simp only [Act.put, List.getElem_toArray, List.getElem_cons_succ, List.getElem_cons_zero, List.setIfInBounds_toArray, List.set_cons_zero, List.set_cons_succ]))
            (refine q_val (v := ?_) (by rfl) ?_ ?_; rotate_left; (· (intro w hC; have c := (hC.kn.at 3 rfl).cell 0; simp only [List.getElem?_toArray, List.getElem?_cons_zero] at c; go_simp; try with_reducible rfl)); (try simp only [Act.put, List.getElem_toArray, List.getElem_cons_succ, List.getElem_cons_zero, List.setIfInBounds_toArray, List.set_cons_zero, List.set_cons_succ]))
            (refine q_val (v := ?_) (by rfl) ?_ ?_; rotate_left; (· (intro w hC; go_simp; try with_reducible rfl)); (try simp only [Act.put, List.getElem_toArray, List.getElem_cons_succ, List.getElem_cons_zero, List.setIfInBounds_toArray, List.set_cons_zero, List.set_cons_succ]))
            (refine q_call (v := .bool false) 9 #[.int .u32 (s : Nat), .int .i64 ((k : Int) - 1)] (by rfl) (fun w hC => by go_simp; try with_reducible rfl) (fun w hC => calls_in (calls_same (by have c := lhas_any s ((k : Int) - 1) w hs; rw [HB.out] at c; exact c)) (fun w2 hb => hC.next hb)) ?_; (try simp only [Act.put, List.getElem_toArray, List.getElem_cons_succ, List.getElem_cons_zero, List.setIfInBounds_toArray, List.set_cons_zero, List.set_cons_succ]))
            (refine q_val (v := ?_) (by rfl) ?_ ?_; rotate_left; (· (intro w hC; go_simp; try with_reducible rfl)); (try simp only [Act.put, List.getElem_toArray, List.getElem_cons_succ, List.getElem_cons_zero, List.setIfInBounds_toArray, List.set_cons_zero, List.set_cons_succ]))
            (refine q_skip (by rfl) ?_; (try simp only [Act.put, List.getElem_toArray, List.getElem_cons_succ, List.getElem_cons_zero, List.setIfInBounds_toArray, List.set_cons_zero, List.set_cons_succ]))
            (refine q_skip (by rfl) ?_; (try simp only [Act.put, List.getElem_toArray, List.getElem_cons_succ, List.getElem_cons_zero, List.setIfInBounds_toArray, List.set_cons_zero, List.set_cons_succ]))
            (refine q_skip (by rfl) ?_; (try simp only [Act.put, List.getElem_toArray, List.getElem_cons_succ, List.getElem_cons_zero, List.setIfInBounds_toArray, List.set_cons_zero, List.set_cons_succ]))
            (refine q_val (v := ?_) (by rfl) ?_ ?_; rotate_left; (· (intro w hC; go_simp; try with_reducible rfl)); (try simp only [Act.put, List.getElem_toArray, List.getElem_cons_succ, List.getElem_cons_zero, List.setIfInBounds_toArray, List.set_cons_zero, List.set_cons_succ]))
            (refine q_val (v := ?_) (by rfl) ?_ ?_; rotate_left; (· (intro w hC; go_simp; try with_reducible rfl)); (try simp only [Act.put, List.getElem_toArray, List.getElem_cons_succ, List.getElem_cons_zero, List.setIfInBounds_toArray, List.set_cons_zero, List.set_cons_succ]))
            (refine q_val (v := ?_) (by rfl) ?_ ?_; rotate_left; (· (intro w hC; go_simp; try with_reducible rfl)); (try simp only [Act.put, List.getElem_toArray, List.getElem_cons_succ, List.getElem_cons_zero, List.setIfInBounds_toArray, List.set_cons_zero, List.set_cons_succ]))
            refine wpQuiet_nil ?_
            intro w5 hC5
            have HC5 := Lib.hid hC5
            clear hC5 HC
            have c0 := (HC5.out.kn.at 3 rfl).cell 0
            simp only [List.getElem?_toArray, List.getElem?_cons_zero] at c0
            go_wp2_with (go_at_call 9; ((with_reducible refine (lhas_any s _ _ hs).mono ?_); rintro e w6 ⟨rfl, rfl⟩; rw [HB.out]))
            go_roundw
            case rel => exact ⟨k + 1, by omega, by go_num, by rw [cntL_no HB.out], ⟨_, rfl, HBB.out.trans ⟨fun h1 j hj hj2 => by
              by_cases c : j = k
              · subst c; rw [HB.out] at hj2; cases hj2
              · exact h1 j (by omega) hj2, fun h1 j hj => h1 j (by omega)⟩⟩, HC5.out⟩
            case measure => simp [intOf]; omega
      · skip
        have hk42 : k = 42 := by omega
        subst hk42
        have CN := Lib.hid (cntL_all s)
        obtain rfl : bb = withinB s t := by rw [Bool.eq_iff_iff, HBB.out, within_iff]
        rw [CN.out]
        clear HBB hcl hlt hk CN
        go_upto_region 21 with fail
        have S5 : Hc w [(h, #[.int .i64 ((portsL s).length : Nat)], 3), (g, #[.int .u32 (s : Nat)], 22)] D wr.drew := ⟨(HC.out.kn.sub (fun x hx => by simp only [List.mem_cons, List.not_mem_nil, or_false] at hx ⊢; rcases hx with h | h <;> simp [h])).drew, HC.out.dfr⟩
        have F5 := Lib.hid HC.out.drew
        clear HC
        refine wp_region_noPanic ?_
        refine wp_region_held_drew (S := Hc w [(h, #[.int .i64 ((portsL s).length : Nat)], 3), (g, #[.int .u32 (s : Nat)], 22)] D) (by kernel_rfl) S5 (fun _ => ?_)
        generalize wr.drew = w5 at *
        (refine wpAnyH_take (i := 0) (v := ?_) rfl (by kernel_rfl) (by kernel_rfl) (by kernel_rfl) (fun _ _ _ h => h) (Or.inl ⟨by rfl, ?_⟩) (by assumption) ?_; rotate_left; (· (intro w hSw; have c := (hSw.kn.at 0 rfl).cell 0; simp only [List.getElem?_toArray, List.getElem?_cons_zero] at c; go_simp; try with_reducible rfl)); (try simp only [Act.put, List.getElem_toArray, List.getElem_cons_succ, List.getElem_cons_zero, List.setIfInBounds_toArray, List.set_cons_zero, List.set_cons_succ]))
        (refine wpAnyH_take (i := 1) (v := ?_) rfl (by kernel_rfl) (by kernel_rfl) (by kernel_rfl) (fun _ _ _ h => h) (Or.inl ⟨by rfl, ?_⟩) (by assumption) ?_; rotate_left; (· (intro w hSw; go_simp; try with_reducible rfl)); (try simp only [Act.put, List.getElem_toArray, List.getElem_cons_succ, List.getElem_cons_zero, List.setIfInBounds_toArray, List.set_cons_zero, List.set_cons_succ]))
        (refine wpAnyH_take (i := 2) (v := ?_) rfl (by kernel_rfl) (by kernel_rfl) (by kernel_rfl) (fun _ _ _ h => h) (Or.inl ⟨by rfl, ?_⟩) (by assumption) ?_; rotate_left; (· (intro w hSw; go_simp; try with_reducible rfl)); (try simp only [Act.put, List.getElem_toArray, List.getElem_cons_succ, List.getElem_cons_zero, List.setIfInBounds_toArray, List.set_cons_zero, List.set_cons_succ]))
        (refine wpAnyH_take (i := 3) (v := ?_) rfl (by kernel_rfl) (by kernel_rfl) (by kernel_rfl) (fun _ _ _ h => h) (Or.inl ⟨by rfl, ?_⟩) (by assumption) ?_; rotate_left; (· (intro w hSw; go_simp; try with_reducible rfl)); (try simp only [Act.put, List.getElem_toArray, List.getElem_cons_succ, List.getElem_cons_zero, List.setIfInBounds_toArray, List.set_cons_zero, List.set_cons_succ]))
        (refine wpAnyH_take (i := 4) (v := ?_) rfl (by kernel_rfl) (by kernel_rfl) (by kernel_rfl) (fun _ _ _ h => h) (Or.inl ⟨by rfl, ?_⟩) (by assumption) ?_; rotate_left; (· (intro w hSw; go_simp; try with_reducible rfl)); (try simp only [Act.put, List.getElem_toArray, List.getElem_cons_succ, List.getElem_cons_zero, List.setIfInBounds_toArray, List.set_cons_zero, List.set_cons_succ]))
        (refine wpAnyH_take (i := 6) (v := ?_) rfl (by kernel_rfl) (by kernel_rfl) (by kernel_rfl) (fun _ _ _ h => h) (Or.inl ⟨by rfl, ?_⟩) (by assumption) ?_; rotate_left; (· (intro w hSw; go_simp; try with_reducible rfl)); (try simp only [Act.put, List.getElem_toArray, List.getElem_cons_succ, List.getElem_cons_zero, List.setIfInBounds_toArray, List.set_cons_zero, List.set_cons_succ]))
        refine wpAnyH_ready (rs := [5]) (by kernel_rfl) (by simp) ?_
        refine AllReadyH.cons rfl (fun K hK => ?_) AllReadyH.nil
        go_simp
        refine (count_any s _ hs).mono ?_
        rintro e w6 ⟨rfl, hb⟩
        dsimp only
        have S6 := S5.next hb
        have F6 := Lib.hid (F5.out.next hb)
        refine hK.out _ _ S6 (fun _ => ?_)
        clear hK K hb F5 S5
        (try simp only [Act.put, List.getElem_toArray, List.getElem_cons_succ, List.getElem_cons_zero, List.setIfInBounds_toArray, List.set_cons_zero, List.set_cons_succ])
        (refine wpAnyH_take (i := 7) (v := ?_) rfl (by kernel_rfl) (by kernel_rfl) (by kernel_rfl) (fun _ _ _ h => h) (Or.inl ⟨by rfl, ?_⟩) (by assumption) ?_; rotate_left; (· (intro w hSw; go_simp; try with_reducible rfl)); (try simp only [Act.put, List.getElem_toArray, List.getElem_cons_succ, List.getElem_cons_zero, List.setIfInBounds_toArray, List.set_cons_zero, List.set_cons_succ]))
        (refine wpAnyH_take (i := 8) (v := ?_) rfl (by kernel_rfl) (by kernel_rfl) (by kernel_rfl) (fun _ _ _ h => h) (Or.inl ⟨by rfl, ?_⟩) (by assumption) ?_; rotate_left; (· (intro w hSw; go_simp; try with_reducible rfl)); (try simp only [Act.put, List.getElem_toArray, List.getElem_cons_succ, List.getElem_cons_zero, List.setIfInBounds_toArray, List.set_cons_zero, List.set_cons_succ]))
        (refine wpAnyH_take (i := 9) (v := ?_) rfl (by kernel_rfl) (by kernel_rfl) (by kernel_rfl) (fun _ _ _ h => h) (Or.inl ⟨by rfl, ?_⟩) (by assumption) ?_; rotate_left; (· (intro w hSw; go_simp; try with_reducible rfl)); (try simp only [Act.put, List.getElem_toArray, List.getElem_cons_succ, List.getElem_cons_zero, List.setIfInBounds_toArray, List.set_cons_zero, List.set_cons_succ]))
        (refine wpAnyH_take (i := 10) (v := ?_) rfl (by kernel_rfl) (by kernel_rfl) (by kernel_rfl) (fun _ _ _ h => h) (Or.inl ⟨by rfl, ?_⟩) (by assumption) ?_; rotate_left; (· (intro w hSw; go_simp; try with_reducible rfl)); (try simp only [Act.put, List.getElem_toArray, List.getElem_cons_succ, List.getElem_cons_zero, List.setIfInBounds_toArray, List.set_cons_zero, List.set_cons_succ]))
        (refine wpAnyH_take (i := 11) (v := ?_) rfl (by kernel_rfl) (by kernel_rfl) (by kernel_rfl) (fun _ _ _ h => h) (Or.inl ⟨by rfl, ?_⟩) (by assumption) ?_; rotate_left; (· (intro w hSw; go_simp; try with_reducible rfl)); (try simp only [Act.put, List.getElem_toArray, List.getElem_cons_succ, List.getElem_cons_zero, List.setIfInBounds_toArray, List.set_cons_zero, List.set_cons_succ]))
        (refine wpAnyH_take (i := 13) (v := ?_) rfl (by kernel_rfl) (by kernel_rfl) (by kernel_rfl) (fun _ _ _ h => h) (Or.inl ⟨by rfl, ?_⟩) (by assumption) ?_; rotate_left; (· (intro w hSw; go_simp; try with_reducible rfl)); (try simp only [Act.put, List.getElem_toArray, List.getElem_cons_succ, List.getElem_cons_zero, List.setIfInBounds_toArray, List.set_cons_zero, List.set_cons_succ]))
        refine wpAnyH_ready (rs := [12]) (by kernel_rfl) (by simp) ?_
        refine AllReadyH.cons rfl (fun K hK => ?_) AllReadyH.nil
        go_simp
        refine (within_any s t _ hs ht).mono ?_
        rintro e w7 ⟨rfl, hb⟩
        dsimp only
        have S7 := S6.next hb
        have F7 := Lib.hid (F6.out.next hb)
        refine hK.out _ _ S7 (fun _ => ?_)
        clear hK K hb F6 S6
        (try simp only [Act.put, List.getElem_toArray, List.getElem_cons_succ, List.getElem_cons_zero, List.setIfInBounds_toArray, List.set_cons_zero, List.set_cons_succ])
        (refine wpAnyH_take (i := 14) (v := ?_) rfl (by kernel_rfl) (by kernel_rfl) (by kernel_rfl) (fun _ _ _ h => h) (Or.inl ⟨by rfl, ?_⟩) (by assumption) ?_; rotate_left; (· (intro w hSw; go_simp; try with_reducible rfl)); (try simp only [Act.put, List.getElem_toArray, List.getElem_cons_succ, List.getElem_cons_zero, List.setIfInBounds_toArray, List.set_cons_zero, List.set_cons_succ]))
        (refine wpAnyH_take (i := 15) (v := ?_) rfl (by kernel_rfl) (by kernel_rfl) (by kernel_rfl) (fun _ _ _ h => h) (Or.inl ⟨by rfl, ?_⟩) (by assumption) ?_; rotate_left; (· (intro w hSw; go_simp; try with_reducible rfl)); (try simp only [Act.put, List.getElem_toArray, List.getElem_cons_succ, List.getElem_cons_zero, List.setIfInBounds_toArray, List.set_cons_zero, List.set_cons_succ]))
        (refine wpAnyH_take (i := 16) (v := ?_) rfl (by kernel_rfl) (by kernel_rfl) (by kernel_rfl) (fun _ _ _ h => h) (Or.inl ⟨by rfl, ?_⟩) (by assumption) ?_; rotate_left; (· (intro w hSw; go_simp; try with_reducible rfl)); (try simp only [Act.put, List.getElem_toArray, List.getElem_cons_succ, List.getElem_cons_zero, List.setIfInBounds_toArray, List.set_cons_zero, List.set_cons_succ]))
        (refine wpAnyH_take (i := 17) (v := ?_) rfl (by kernel_rfl) (by kernel_rfl) (by kernel_rfl) (fun _ _ _ h => h) (Or.inl ⟨by rfl, ?_⟩) (by assumption) ?_; rotate_left; (· (intro w hSw; go_simp; try with_reducible rfl)); (try simp only [Act.put, List.getElem_toArray, List.getElem_cons_succ, List.getElem_cons_zero, List.setIfInBounds_toArray, List.set_cons_zero, List.set_cons_succ]))
        (refine wpAnyH_take (i := 18) (v := ?_) rfl (by kernel_rfl) (by kernel_rfl) (by kernel_rfl) (fun _ _ _ h => h) (Or.inl ⟨by rfl, ?_⟩) (by assumption) ?_; rotate_left; (· (intro w hSw; go_simp; try with_reducible rfl)); (try simp only [Act.put, List.getElem_toArray, List.getElem_cons_succ, List.getElem_cons_zero, List.setIfInBounds_toArray, List.set_cons_zero, List.set_cons_succ]))
        (refine wpAnyH_take (i := 20) (v := ?_) rfl (by kernel_rfl) (by kernel_rfl) (by kernel_rfl) (fun _ _ _ h => h) (Or.inl ⟨by rfl, ?_⟩) (by assumption) ?_; rotate_left; (· (intro w hSw; have c := (hSw.kn.at 1 rfl).cell 0; simp only [List.getElem?_toArray, List.getElem?_cons_zero] at c; go_simp; try with_reducible rfl)); (try simp only [Act.put, List.getElem_toArray, List.getElem_cons_succ, List.getElem_cons_zero, List.setIfInBounds_toArray, List.set_cons_zero, List.set_cons_succ]))
        (refine wpAnyH_take (i := 21) (v := ?_) rfl (by kernel_rfl) (by kernel_rfl) (by kernel_rfl) (fun _ _ _ h => h) (Or.inl ⟨by rfl, ?_⟩) (by assumption) ?_; rotate_left; (· (intro w hSw; go_simp; try with_reducible rfl)); (try simp only [Act.put, List.getElem_toArray, List.getElem_cons_succ, List.getElem_cons_zero, List.setIfInBounds_toArray, List.set_cons_zero, List.set_cons_succ]))
        refine wpAnyH_ready (rs := [19]) (by kernel_rfl) (by simp) ?_
        refine AllReadyH.cons rfl (fun K hK => ?_) AllReadyH.nil
        go_simp
        refine (calls_same (has_any s p _ hs)).mono ?_
        rintro e w8 ⟨rfl, hb⟩
        dsimp only
        have S8 := S7.next hb
        have F8 := Lib.hid (F7.out.next hb)
        refine hK.out _ _ S8 (fun _ => ?_)
        clear hK K hb F7 S7
        (try simp only [Act.put, List.getElem_toArray, List.getElem_cons_succ, List.getElem_cons_zero, List.setIfInBounds_toArray, List.set_cons_zero, List.set_cons_succ])
        refine wpAnyH_ready (rs := [22]) (by kernel_rfl) (by simp) ?_
        refine AllReadyH.cons rfl (fun K hK => ?_) AllReadyH.nil
        go_simp
        refine (calls_same (lhas_any s p _ hs)).mono ?_
        rintro e w9 ⟨rfl, hb⟩
        dsimp only
        have S9 := S8.next hb
        have F9 := Lib.hid (F8.out.next hb)
        refine hK.out _ _ S9 (fun _ => ?_)
        clear hK K hb F8 S8
        (try simp only [Act.put, List.getElem_toArray, List.getElem_cons_succ, List.getElem_cons_zero, List.setIfInBounds_toArray, List.set_cons_zero, List.set_cons_succ])
        (refine wpAnyH_take (i := 23) (v := ?_) rfl (by kernel_rfl) (by kernel_rfl) (by kernel_rfl) (fun _ _ _ h => h) (Or.inl ⟨by rfl, ?_⟩) (by assumption) ?_; rotate_left; (· (intro w hSw; go_simp; try with_reducible rfl)); (try simp only [Act.put, List.getElem_toArray, List.getElem_cons_succ, List.getElem_cons_zero, List.setIfInBounds_toArray, List.set_cons_zero, List.set_cons_succ]))
        (refine wpAnyH_take (i := 24) (v := ?_) rfl (by kernel_rfl) (by kernel_rfl) (by kernel_rfl) (fun _ _ _ h => h) (Or.inl ⟨by rfl, ?_⟩) (by assumption) ?_; rotate_left; (· (intro w hSw; go_simp; try with_reducible rfl)); (try simp only [Act.put, List.getElem_toArray, List.getElem_cons_succ, List.getElem_cons_zero, List.setIfInBounds_toArray, List.set_cons_zero, List.set_cons_succ]))
        refine wpAnyH_ready (rs := [25]) (by kernel_rfl) (by simp) ?_
        refine AllReadyH.cons rfl (fun K hK => ?_) AllReadyH.nil
        rw [if_pos (by rfl)]
        refine wp_store_cell _ _ _ rfl ⟨g + 1, 0, none⟩ (.bool true) rfl rfl (by have c := (F9.out.kn.at 2 rfl).cell 0; simp only [List.getElem?_toArray, List.getElem?_cons_zero] at c; have fr := (F9.out.kn.at 2 rfl).free 0; go_simp) ?_
        have hK' := (KeepsOthers.setCell w9 ⟨g + 1, 0, none⟩ (.bool true)).same D _ S9.dfr rfl
        have k9 := F9.out.kn.upd 2 rfl (fun y hy => by simp only [List.eraseIdx_cons_zero, List.eraseIdx_cons_succ, List.mem_cons, List.not_mem_nil, or_false] at hy; rcases hy with rfl | rfl | rfl <;> (intro e; first | (dsimp only at e; omega) | omega)) (by omega) 0 (.bool true)
        simp only [List.set_cons_zero, List.set_cons_succ, List.setIfInBounds_toArray] at k9
        refine hK.out _ _ ⟨S9.kn.other (a := ⟨g + 1, 0, none⟩) (fun y hy => by simp only [List.mem_cons, List.not_mem_nil, or_false] at hy; rcases hy with rfl | rfl <;> (intro e; first | (dsimp only at e; omega) | omega)) (by show w.heap.size ≤ g + 1; omega) _, hK'⟩ (fun _ => ?_)
        clear hK K S9 F9
        (try simp only [Act.put, List.getElem_toArray, List.getElem_cons_succ, List.getElem_cons_zero, List.setIfInBounds_toArray, List.set_cons_zero, List.set_cons_succ])
        generalize w9.setCell ⟨g + 1, 0, none⟩ (.bool true) = w10 at *
        refine wpAnyH_done (by kernel_rfl) (NoPanic.normal ?_) _
        go_wp2_with fail
        refine ⟨by simp, .inl ⟨_, _, rfl, run_takeDeferred hK', ?_⟩⟩
        have c6 := kn_own (B := W0.heap.size) (by omega) (fun _ : Unit => _) () _ _ _ k9 (grownBy_putObj' _ D (.deferred none)) (fun r e => by cases e; exact ⟨HDW.out, _, hK', rfl⟩)
        have c7 := (c6.at 2 rfl).cell 0
        simp only [List.getElem?_toArray, List.getElem?_cons_zero] at c7
        refine ⟨.bool true, ?_, rfl, c6.below⟩
        simp [results, Try.results3, go_sem, c7]
  case stop =>
    rintro D c pre W hD hpre ⟨rfl, hno⟩ hK
    exact absurd (okL_prefix (okL_upto s 16).1 hpre) hno
end Go.Proofs.Ytjipbdljljhijaa
