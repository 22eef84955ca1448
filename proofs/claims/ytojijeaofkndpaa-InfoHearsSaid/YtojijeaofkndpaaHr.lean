/- InfoHears. -/
import Derived.Test.YtojijeaofkndpaaHr0
namespace Go.Proofs.Ytojijeaofkndpaa
open Go.RowKit
attribute [local irreducible] wpQuiet wpList
set_option linter.unusedSimpArgs false
set_option linter.unusedVariables false

set_option maxRecDepth 100000 in
set_option maxHeartbeats 8000000 in
theorem hears_law (x : Lp) (y : Vc) (n0 n1 n2 : Int) (w : World) : Calls Try.prog 5 #[.agg (lpA x), .agg (tvA y), .agg #[.int .i64 n0, .int .i64 n1, .int .i64 n2]] w fun e w' => e = .returned (.bool true) ∧ Below w.heap.size w w' := by
  obtain ⟨u, hu⟩ : ∃ u, u = x.f0 := ⟨_, rfl⟩
  obtain ⟨a, ha⟩ : ∃ u, u = x.f1 := ⟨_, rfl⟩
  obtain ⟨m, hm⟩ : ∃ m, m = (IntKind.i64.wrap (Int.tmod (x.n2 : Nat) 3)) := ⟨_, rfl⟩
  obtain ⟨pr, hpr⟩ : ∃ m, m = (IntKind.i64.wrap (Int.tmod (x.no : Nat) 16)) := ⟨_, rfl⟩
  obtain ⟨r0, hr0⟩ : ∃ m, m = (IntKind.i64.wrap (Int.tmod (x.n0 : Nat) 5)) := ⟨_, rfl⟩
  obtain ⟨r1, hr1⟩ : ∃ m, m = (IntKind.i64.wrap (Int.tmod (x.n1 : Nat) 3)) := ⟨_, rfl⟩
  obtain ⟨h, hh⟩ : ∃ h, h = bits BinOp.and IntKind.i64 n2 1023 := ⟨_, rfl⟩
  have HU := Lib.hid hu
  have HA := Lib.hid ha
  have HM := Lib.hid hm
  have HH := Lib.hid hh
  have HPR := Lib.hid hpr
  have HR0 := Lib.hid hr0
  have HR1 := Lib.hid hr1
  clear hu ha hm hh hpr hr0 hr1
  obtain ⟨Q, hQ⟩ : ∃ Q, Q = hearP ⟨0, 0, false, 0, pr, x.f4, a, u, x.f2, x.f3, r0, r1, m, (x.v.r : Nat), (x.v.c : Nat), (x.v.b : Nat), (x.v.p : Nat), x.k0, x.k1, x.k2, x.k3⟩ x.v y n0 ⟨0, n1, h, 0, 0, 0⟩ := ⟨_, rfl⟩
  obtain ⟨k, hk⟩ : ∃ k, k = hearN ⟨0, 0, false, 0, pr, x.f4, a, u, x.f2, x.f3, r0, r1, m, (x.v.r : Nat), (x.v.c : Nat), (x.v.b : Nat), (x.v.p : Nat), x.k0, x.k1, x.k2, x.k3⟩ x.v y n0 ⟨0, n1, h, 0, 0, 0⟩ := ⟨_, rfl⟩
  have HQ := Lib.hid hQ
  have HK := Lib.hid hk
  clear hQ hk
  have K := Lib.hid (Kb.nil w)
  go_enter Try.func5, Try.ntmps5
  go_upto_region 0 with fail
  refine wp_region_lit ?_
  refine kb_box K.out 55 (.tmp 0) (lpA x) rfl rfl (by rfl) ?_
  intro b1 w1 hb1 hk
  have K1 := Lib.hid (show Kb w [(b1, lpA x, 55)] w1 from hk)
  clear hk hb1
  (try simp only [Act.put, List.getElem_toArray, List.getElem_cons_succ, List.getElem_cons_zero, List.setIfInBounds_toArray, List.set_cons_zero, List.set_cons_succ])
  refine kb_box K1.out 52 (.tmp 1) (tvA y) rfl rfl (by rfl) ?_
  intro b2 w2 hb2 hk
  have K2 := Lib.hid (show Kb w [(b1, lpA x, 55), (b2, tvA y, 52)] w2 from hk)
  clear hk hb2
  (try simp only [Act.put, List.getElem_toArray, List.getElem_cons_succ, List.getElem_cons_zero, List.setIfInBounds_toArray, List.set_cons_zero, List.set_cons_succ])
  refine kb_box K2.out 56 (.tmp 2) (#[.int .i64 n0, .int .i64 n1, .int .i64 n2]) rfl rfl (by rfl) ?_
  intro b3 w3 hb3 hk
  have K3 := Lib.hid (show Kb w [(b1, lpA x, 55), (b2, tvA y, 52), (b3, #[.int .i64 n0, .int .i64 n1, .int .i64 n2], 56)] w3 from hk)
  clear hk hb3
  (try simp only [Act.put, List.getElem_toArray, List.getElem_cons_succ, List.getElem_cons_zero, List.setIfInBounds_toArray, List.set_cons_zero, List.set_cons_succ])
  refine wpList_val (.bool false) (by rfl) (by go_simp) ?_
  (try simp only [Act.put, List.getElem_toArray, List.getElem_cons_succ, List.getElem_cons_zero, List.setIfInBounds_toArray, List.set_cons_zero, List.set_cons_succ])
  refine wpList_nil ?_
  go_upto_region 1 with fail
  refine wp_region_lit ?_
  refine kb_call K3.out 14 #[] (.bool true) (by rfl) (by go_simp) (ispeaks_any w3) ?_
  intro w4 hk
  have K4 := Lib.hid (show Kb w [(b1, lpA x, 55), (b2, tvA y, 52), (b3, #[.int .i64 n0, .int .i64 n1, .int .i64 n2], 56)] w4 from hk)
  clear hk
  (try simp only [Act.put, List.getElem_toArray, List.getElem_cons_succ, List.getElem_cons_zero, List.setIfInBounds_toArray, List.set_cons_zero, List.set_cons_succ])
  refine wpList_val (.bool false) (by rfl) (by go_simp) ?_
  (try simp only [Act.put, List.getElem_toArray, List.getElem_cons_succ, List.getElem_cons_zero, List.setIfInBounds_toArray, List.set_cons_zero, List.set_cons_succ])
  refine wpList_nil ?_
  go_upto_region 3 with fail
  refine wp_region_inv (I := fun L ac w' => ∃ (v8 : Value), ac = HrA x y n0 n1 n2 h m pr r0 r1 u a b1 b2 b3 L v8 ∧ W2 w4 58 62 6 21 (cfA ⟨0, n1, h, 0, 0, 0⟩) (#[]) (L 8) false (L 10) false v8 undef w') (by kernel_rfl) (by kernel_rfl) ⟨undef, by kernel_rfl, W2.start _⟩ ?_ ?_
  · intro i hi Lx ac w' hI hL haft
    obtain ⟨v8, rfl, hw⟩ := hI
    match i, hi with
    | 0, _ =>
      have g5 : (HrA x y n0 n1 n2 h m pr r0 r1 u a b1 b2 b3 Lx v8).tmps[5]?.getD undef = .pointer (some ⟨b3, 0, none⟩) := by kernel_rfl
      have e5 : (HrA x y n0 n1 n2 h m pr r0 r1 u a b1 b2 b3 Lx v8).eval (.tmp 5) = .pointer (some ⟨b3, 0, none⟩) := by kernel_rfl
      exact i_val rfl (.pointer (some ⟨b3, 0, none⟩)) w' (by rfl) (by go_simp) ⟨v8, by kernel_rfl, hw⟩
    | 1, _ =>
      have h0 := haft 0 (by decide)
      have e18 : (HrA x y n0 n1 n2 h m pr r0 r1 u a b1 b2 b3 Lx v8).eval (.tmp 18) = .pointer (some ⟨b3, 0, none⟩) := by show (bif Lx 0 then _ else _) = _; rw [h0]; rfl
      have g18 : (HrA x y n0 n1 n2 h m pr r0 r1 u a b1 b2 b3 Lx v8).tmps[18]?.getD undef = .pointer (some ⟨b3, 0, none⟩) := by show (bif Lx 0 then _ else _) = _; rw [h0]; rfl
      exact i_val rfl (.int .i64 n0) w' (by rfl) (by have q : w'.cell? ⟨b3, 0, none⟩ = some (.int .i64 n0) := Kb.cell (i := 2) (K4.out.next hw.from1) rfl (by rfl); go_simp) ⟨v8, by kernel_rfl, hw⟩
    | 2, _ =>
      have g5 : (HrA x y n0 n1 n2 h m pr r0 r1 u a b1 b2 b3 Lx v8).tmps[5]?.getD undef = .pointer (some ⟨b3, 0, none⟩) := by kernel_rfl
      have e5 : (HrA x y n0 n1 n2 h m pr r0 r1 u a b1 b2 b3 Lx v8).eval (.tmp 5) = .pointer (some ⟨b3, 0, none⟩) := by kernel_rfl
      exact i_val rfl (.pointer (some ⟨b3, 1, none⟩)) w' (by rfl) (by go_simp) ⟨v8, by kernel_rfl, hw⟩
    | 3, _ =>
      have h2 := haft 2 (by decide)
      have e20 : (HrA x y n0 n1 n2 h m pr r0 r1 u a b1 b2 b3 Lx v8).eval (.tmp 20) = .pointer (some ⟨b3, 1, none⟩) := by show (bif Lx 2 then _ else _) = _; rw [h2]; rfl
      have g20 : (HrA x y n0 n1 n2 h m pr r0 r1 u a b1 b2 b3 Lx v8).tmps[20]?.getD undef = .pointer (some ⟨b3, 1, none⟩) := by show (bif Lx 2 then _ else _) = _; rw [h2]; rfl
      exact i_val rfl (.int .i64 n1) w' (by rfl) (by have q : w'.cell? ⟨b3, 1, none⟩ = some (.int .i64 n1) := Kb.cell (i := 2) (K4.out.next hw.from1) rfl (by rfl); go_simp) ⟨v8, by kernel_rfl, hw⟩
    | 4, _ =>
      have g5 : (HrA x y n0 n1 n2 h m pr r0 r1 u a b1 b2 b3 Lx v8).tmps[5]?.getD undef = .pointer (some ⟨b3, 0, none⟩) := by kernel_rfl
      have e5 : (HrA x y n0 n1 n2 h m pr r0 r1 u a b1 b2 b3 Lx v8).eval (.tmp 5) = .pointer (some ⟨b3, 0, none⟩) := by kernel_rfl
      exact i_val rfl (.pointer (some ⟨b3, 2, none⟩)) w' (by rfl) (by go_simp) ⟨v8, by kernel_rfl, hw⟩
    | 5, _ =>
      have h4 := haft 4 (by decide)
      have e22 : (HrA x y n0 n1 n2 h m pr r0 r1 u a b1 b2 b3 Lx v8).eval (.tmp 22) = .pointer (some ⟨b3, 2, none⟩) := by show (bif Lx 4 then _ else _) = _; rw [h4]; rfl
      have g22 : (HrA x y n0 n1 n2 h m pr r0 r1 u a b1 b2 b3 Lx v8).tmps[22]?.getD undef = .pointer (some ⟨b3, 2, none⟩) := by show (bif Lx 4 then _ else _) = _; rw [h4]; rfl
      exact i_val rfl (.int .i64 n2) w' (by rfl) (by have q : w'.cell? ⟨b3, 2, none⟩ = some (.int .i64 n2) := Kb.cell (i := 2) (K4.out.next hw.from1) rfl (by rfl); go_simp) ⟨v8, by kernel_rfl, hw⟩
    | 6, _ =>
      have h5 := haft 5 (by decide)
      have e23 : (HrA x y n0 n1 n2 h m pr r0 r1 u a b1 b2 b3 Lx v8).eval (.tmp 23) = .int .i64 n2 := by show (bif Lx 5 then _ else _) = _; rw [h5]; rfl
      have g23 : (HrA x y n0 n1 n2 h m pr r0 r1 u a b1 b2 b3 Lx v8).tmps[23]?.getD undef = .int .i64 n2 := by show (bif Lx 5 then _ else _) = _; rw [h5]; rfl
      exact i_val rfl (.int .i64 h) w' (by rfl) (by rw [show (Value.int IntKind.i64 h) = .int .i64 (bits BinOp.and IntKind.i64 n2 1023) from by rw [HH.out]]; go_simp) ⟨v8, by kernel_rfl, hw⟩
    | 7, _ =>
      have h3 := haft 3 (by decide)
      have e21 : (HrA x y n0 n1 n2 h m pr r0 r1 u a b1 b2 b3 Lx v8).eval (.tmp 21) = .int .i64 n1 := by show (bif Lx 3 then _ else _) = _; rw [h3]; rfl
      have g21 : (HrA x y n0 n1 n2 h m pr r0 r1 u a b1 b2 b3 Lx v8).tmps[21]?.getD undef = .int .i64 n1 := by show (bif Lx 3 then _ else _) = _; rw [h3]; rfl
      have h6 := haft 6 (by decide)
      have e24 : (HrA x y n0 n1 n2 h m pr r0 r1 u a b1 b2 b3 Lx v8).eval (.tmp 24) = .int .i64 h := by show (bif Lx 6 then _ else _) = _; rw [h6]; rfl
      have g24 : (HrA x y n0 n1 n2 h m pr r0 r1 u a b1 b2 b3 Lx v8).tmps[24]?.getD undef = .int .i64 h := by show (bif Lx 6 then _ else _) = _; rw [h6]; rfl
      exact i_val rfl (.agg (cfA ⟨0, n1, h, 0, 0, 0⟩)) w' (by rfl) (run_build_of 58 [(1, .tmp 21), (2, .tmp 24)] rfl _ (cfA ⟨0, n1, h, 0, 0, 0⟩) (by simp only [List.map_cons, List.map_nil, e21, e24]; rfl) (by kernel_rfl)) ⟨v8, by kernel_rfl, hw⟩
    | 8, _ =>
      have hz := zC w'
      exact i_val rfl (.pointer (some ⟨w'.heap.size, 0, none⟩)) (w'.alloc (.cells (nil6) 58)) (by rfl) (by go_simp) ⟨(.pointer (some ⟨w'.heap.size, 0, none⟩)), by kernel_rfl, hw.alloc7 rfl hL⟩
    | 9, _ =>
      have h1 := haft 1 (by decide)
      have e19 : (HrA x y n0 n1 n2 h m pr r0 r1 u a b1 b2 b3 Lx v8).eval (.tmp 19) = .int .i64 n0 := by show (bif Lx 1 then _ else _) = _; rw [h1]; rfl
      have g19 : (HrA x y n0 n1 n2 h m pr r0 r1 u a b1 b2 b3 Lx v8).tmps[19]?.getD undef = .int .i64 n0 := by show (bif Lx 1 then _ else _) = _; rw [h1]; rfl
      exact i_val rfl (.int .i64 n0) w' (by rfl) (by go_simp) ⟨v8, by kernel_rfl, hw⟩
    | 10, _ =>
      have e8 : (HrA x y n0 n1 n2 h m pr r0 r1 u a b1 b2 b3 Lx v8).eval (.tmp 8) = v8 := by kernel_rfl
      have g8 : (HrA x y n0 n1 n2 h m pr r0 r1 u a b1 b2 b3 Lx v8).tmps[8]?.getD undef = v8 := by kernel_rfl
      have h7 := haft 7 (by decide)
      have e25 : (HrA x y n0 n1 n2 h m pr r0 r1 u a b1 b2 b3 Lx v8).eval (.tmp 25) = .agg (cfA ⟨0, n1, h, 0, 0, 0⟩) := by show (bif Lx 7 then _ else _) = _; rw [h7]; rfl
      have g25 : (HrA x y n0 n1 n2 h m pr r0 r1 u a b1 b2 b3 Lx v8).tmps[25]?.getD undef = .agg (cfA ⟨0, n1, h, 0, 0, 0⟩) := by show (bif Lx 7 then _ else _) = _; rw [h7]; rfl
      obtain ⟨c, cs, rfl, hB, hz, hk, -⟩ := hw.p7 (haft 8 (by decide))
      exact i_wp rfl (by rfl) (wp_store_row 58 _ _ rfl c (cfA ⟨0, n1, h, 0, 0, 0⟩) e8 e25 58 cs hk (size34) (hz.trans rfl) (by kernel_rfl) ⟨(.pointer (some ⟨c, 0, none⟩)), by kernel_rfl, hw.store7 (haft 8 (by decide)) rfl hk hB⟩)
    | k + 11, h =>
      exfalso
      have h2 : k + 11 < 11 := h
      omega
  intro Lx ac w5 hI hall
  obtain ⟨v8, rfl, hw⟩ := hI
  obtain ⟨b5x, cs0, hv0, hB0, -, hk0, hx0⟩ := hw.p7 (hall 8 (by decide))
  have hx0 := hx0 (hall 10 (by decide))
  subst hx0
  subst hv0
  have hfr : HrA x y n0 n1 n2 h m pr r0 r1 u a b1 b2 b3 Lx (.pointer (some ⟨b5x, 0, none⟩)) = { tmps := #[.agg (lpA x), .agg (tvA y), .agg (#[.int .i64 n0, .int .i64 n1, .int .i64 n2]), .pointer (some ⟨b1, 0, none⟩), .pointer (some ⟨b2, 0, none⟩), .pointer (some ⟨b3, 0, none⟩), .bool false, .int .i64 n0, .pointer (some ⟨b5x, 0, none⟩), undef, undef, undef, undef, undef, undef, undef, .bool true, .bool false, .pointer (some ⟨b3, 0, none⟩), .int .i64 n0, .pointer (some ⟨b3, 1, none⟩), .int .i64 n1, .pointer (some ⟨b3, 2, none⟩), .int .i64 n2, .int .i64 h, .agg (cfA ⟨0, n1, h, 0, 0, 0⟩), undef, undef, undef, undef, undef, undef, undef, undef, undef, undef, undef, undef, undef, undef, undef, undef, undef, undef, undef, undef, undef, undef, undef, undef, undef, undef, undef, undef, undef, undef, undef, undef, undef, undef, undef, undef, undef, undef, undef, undef, undef, undef, undef, undef, undef, undef, undef, undef, undef, undef, undef, undef, undef, undef, undef, undef, undef, undef, undef, undef, undef, undef, undef, undef, undef, undef, undef, undef, undef, undef, undef, undef, undef, undef, undef, undef, undef, undef, undef, undef, undef, undef, undef, undef, undef, undef, undef, undef, undef, undef, undef, undef, undef, undef, undef, undef, undef, undef, undef, undef, undef], defers := [] } := by unfold HrA; simp only [hall 0 (by decide), hall 1 (by decide), hall 2 (by decide), hall 3 (by decide), hall 4 (by decide), hall 5 (by decide), hall 6 (by decide), hall 7 (by decide), hall 8 (by decide), hall 9 (by decide), cond_true]
  rw [hfr]
  clear hfr
  have K5 := Lib.hid (show Kb w [(b1, lpA x, 55), (b2, tvA y, 52), (b3, #[.int .i64 n0, .int .i64 n1, .int .i64 n2], 56), (b5x, cfA ⟨0, n1, h, 0, 0, 0⟩, 58)] w5 from (kb_add (K4.out.next hw.from1) hk0 (fun x hx => by have := ((K4.out.all x hx).lt); omega) (Nat.le_trans K4.out.below.size hB0)))
  clear hw hall
  go_upto_region 4 with fail
  refine wp_region_inv (I := fun L ac w' => ∃ (v9 v10 : Value), ac = HrB x y n0 n1 n2 h m pr r0 r1 u a b1 b2 b3 b5x L v9 v10 ∧ W2 w5 62 44 21 4 (poA ⟨0, 0, false, 0, pr, x.f4, a, u, x.f2, x.f3, r0, r1, m, (x.v.r : Nat), (x.v.c : Nat), (x.v.b : Nat), (x.v.p : Nat), x.k0, x.k1, x.k2, x.k3⟩) (vcA y) (L 4) (L 5) (L 6) (L 7) v9 v10 w') (by kernel_rfl) (by kernel_rfl) ⟨undef, undef, by kernel_rfl, W2.start _⟩ ?_ ?_
  · intro i hi Lx ac w' hI hL haft
    obtain ⟨v9, v10, rfl, hw⟩ := hI
    match i, hi with
    | 0, _ =>
      have g3 : (HrB x y n0 n1 n2 h m pr r0 r1 u a b1 b2 b3 b5x Lx v9 v10).tmps[3]?.getD undef = .pointer (some ⟨b1, 0, none⟩) := by kernel_rfl
      have e3 : (HrB x y n0 n1 n2 h m pr r0 r1 u a b1 b2 b3 b5x Lx v9 v10).eval (.tmp 3) = .pointer (some ⟨b1, 0, none⟩) := by kernel_rfl
      exact i_val rfl (.agg (lpA x)) w' (by rfl) (kb_all (K5.out.next hw.from1) 0 rfl 55 _ rfl e3 Try.underlying55 rfl (size55)) ⟨v9, v10, by kernel_rfl, hw⟩
    | 1, _ =>
      have h0 := haft 0 (by decide)
      have e26 : (HrB x y n0 n1 n2 h m pr r0 r1 u a b1 b2 b3 b5x Lx v9 v10).eval (.tmp 26) = .agg (lpA x) := by show (bif Lx 0 then _ else _) = _; rw [h0]; rfl
      have g26 : (HrB x y n0 n1 n2 h m pr r0 r1 u a b1 b2 b3 b5x Lx v9 v10).tmps[26]?.getD undef = .agg (lpA x) := by show (bif Lx 0 then _ else _) = _; rw [h0]; rfl
      exact i_call rfl (.agg (poA ⟨0, 0, false, 0, pr, x.f4, a, u, x.f2, x.f3, r0, r1, m, (x.v.r : Nat), (x.v.c : Nat), (x.v.b : Nat), (x.v.p : Nat), x.k0, x.k1, x.k2, x.k3⟩)) 15 #[.agg (lpA x)] (fun w2 => Below w'.heap.size w' w2) (by rfl) (by go_simp) (made_is x ⟨0, 0, false, 0, pr, x.f4, a, u, x.f2, x.f3, r0, r1, m, (x.v.r : Nat), (x.v.c : Nat), (x.v.b : Nat), (x.v.p : Nat), x.k0, x.k1, x.k2, x.k3⟩ (by unfold madeP; rw [HU.out, HA.out, HM.out, HPR.out, HR0.out, HR1.out]) w') (fun w2 hb => ⟨v9, v10, by kernel_rfl, hw.next hb⟩)
    | 2, _ =>
      have g4 : (HrB x y n0 n1 n2 h m pr r0 r1 u a b1 b2 b3 b5x Lx v9 v10).tmps[4]?.getD undef = .pointer (some ⟨b2, 0, none⟩) := by kernel_rfl
      have e4 : (HrB x y n0 n1 n2 h m pr r0 r1 u a b1 b2 b3 b5x Lx v9 v10).eval (.tmp 4) = .pointer (some ⟨b2, 0, none⟩) := by kernel_rfl
      exact i_val rfl (.agg (tvA y)) w' (by rfl) (kb_all (K5.out.next hw.from1) 1 rfl 52 _ rfl e4 Try.underlying52 rfl (size52)) ⟨v9, v10, by kernel_rfl, hw⟩
    | 3, _ =>
      have h2 := haft 2 (by decide)
      have e28 : (HrB x y n0 n1 n2 h m pr r0 r1 u a b1 b2 b3 b5x Lx v9 v10).eval (.tmp 28) = .agg (tvA y) := by show (bif Lx 2 then _ else _) = _; rw [h2]; rfl
      have g28 : (HrB x y n0 n1 n2 h m pr r0 r1 u a b1 b2 b3 b5x Lx v9 v10).tmps[28]?.getD undef = .agg (tvA y) := by show (bif Lx 2 then _ else _) = _; rw [h2]; rfl
      exact i_call rfl (.agg (vcA y)) 16 #[.agg (tvA y)] (fun w2 => Below w'.heap.size w' w2) (by rfl) (by go_simp) (itold_any y w') (fun w2 hb => ⟨v9, v10, by kernel_rfl, hw.next hb⟩)
    | 4, _ =>
      have hz := z50 w'
      exact i_val rfl (.pointer (some ⟨w'.heap.size, 0, none⟩)) (w'.alloc (.cells (nil21) 62)) (by rfl) (by go_simp) ⟨(.pointer (some ⟨w'.heap.size, 0, none⟩)), v10, by kernel_rfl, hw.alloc7 rfl hL⟩
    | 5, _ =>
      have hz := zV w'
      exact i_val rfl (.pointer (some ⟨w'.heap.size, 0, none⟩)) (w'.alloc (.cells (nil4) 44)) (by rfl) (by go_simp) ⟨v9, (.pointer (some ⟨w'.heap.size, 0, none⟩)), by kernel_rfl, hw.alloc8 rfl hL⟩
    | 6, _ =>
      have e9 : (HrB x y n0 n1 n2 h m pr r0 r1 u a b1 b2 b3 b5x Lx v9 v10).eval (.tmp 9) = v9 := by kernel_rfl
      have g9 : (HrB x y n0 n1 n2 h m pr r0 r1 u a b1 b2 b3 b5x Lx v9 v10).tmps[9]?.getD undef = v9 := by kernel_rfl
      have h1 := haft 1 (by decide)
      have e27 : (HrB x y n0 n1 n2 h m pr r0 r1 u a b1 b2 b3 b5x Lx v9 v10).eval (.tmp 27) = .agg (poA ⟨0, 0, false, 0, pr, x.f4, a, u, x.f2, x.f3, r0, r1, m, (x.v.r : Nat), (x.v.c : Nat), (x.v.b : Nat), (x.v.p : Nat), x.k0, x.k1, x.k2, x.k3⟩) := by show (bif Lx 1 then _ else _) = _; rw [h1]; rfl
      have g27 : (HrB x y n0 n1 n2 h m pr r0 r1 u a b1 b2 b3 b5x Lx v9 v10).tmps[27]?.getD undef = .agg (poA ⟨0, 0, false, 0, pr, x.f4, a, u, x.f2, x.f3, r0, r1, m, (x.v.r : Nat), (x.v.c : Nat), (x.v.b : Nat), (x.v.p : Nat), x.k0, x.k1, x.k2, x.k3⟩) := by show (bif Lx 1 then _ else _) = _; rw [h1]; rfl
      obtain ⟨c, cs, rfl, hB, hz, hk, -⟩ := hw.p7 (haft 4 (by decide))
      exact i_wp rfl (by rfl) (wp_store_row 62 _ _ rfl c (poA ⟨0, 0, false, 0, pr, x.f4, a, u, x.f2, x.f3, r0, r1, m, (x.v.r : Nat), (x.v.c : Nat), (x.v.b : Nat), (x.v.p : Nat), x.k0, x.k1, x.k2, x.k3⟩) e9 e27 62 cs hk (size50) (hz.trans rfl) (po_all _) ⟨(.pointer (some ⟨c, 0, none⟩)), v10, by kernel_rfl, hw.store7 (haft 4 (by decide)) rfl hk hB⟩)
    | 7, _ =>
      have e10 : (HrB x y n0 n1 n2 h m pr r0 r1 u a b1 b2 b3 b5x Lx v9 v10).eval (.tmp 10) = v10 := by kernel_rfl
      have g10 : (HrB x y n0 n1 n2 h m pr r0 r1 u a b1 b2 b3 b5x Lx v9 v10).tmps[10]?.getD undef = v10 := by kernel_rfl
      have h3 := haft 3 (by decide)
      have e29 : (HrB x y n0 n1 n2 h m pr r0 r1 u a b1 b2 b3 b5x Lx v9 v10).eval (.tmp 29) = .agg (vcA y) := by show (bif Lx 3 then _ else _) = _; rw [h3]; rfl
      have g29 : (HrB x y n0 n1 n2 h m pr r0 r1 u a b1 b2 b3 b5x Lx v9 v10).tmps[29]?.getD undef = .agg (vcA y) := by show (bif Lx 3 then _ else _) = _; rw [h3]; rfl
      obtain ⟨c, cs, rfl, hB, hz, hk, -⟩ := hw.p8 (haft 5 (by decide))
      exact i_wp rfl (by rfl) (wp_store_row 44 _ _ rfl c (vcA y) e10 e29 44 cs hk (sizeV) (hz.trans rfl) (by kernel_rfl) ⟨v9, (.pointer (some ⟨c, 0, none⟩)), by kernel_rfl, hw.store8 (haft 5 (by decide)) rfl hk hB⟩)
    | k + 8, h =>
      exfalso
      have h2 : k + 8 < 8 := h
      omega
  intro Lx ac w6 hI hall
  obtain ⟨v9, v10, rfl, hw⟩ := hI
  obtain ⟨b6x, cs0, hv0, hB0, -, hk0, hx0⟩ := hw.p7 (hall 4 (by decide))
  have hx0 := hx0 (hall 6 (by decide))
  subst hx0
  obtain ⟨b6y, cs1, hv1, hB1, -, hk1, hx1⟩ := hw.p8 (hall 5 (by decide))
  have hx1 := hx1 (hall 7 (by decide))
  subst hx1
  have hd := hw.d78 (hall 4 (by decide)) (hall 5 (by decide))
  subst hv0
  subst hv1
  have hfr : HrB x y n0 n1 n2 h m pr r0 r1 u a b1 b2 b3 b5x Lx (.pointer (some ⟨b6x, 0, none⟩)) (.pointer (some ⟨b6y, 0, none⟩)) = { tmps := #[.agg (lpA x), .agg (tvA y), .agg (#[.int .i64 n0, .int .i64 n1, .int .i64 n2]), .pointer (some ⟨b1, 0, none⟩), .pointer (some ⟨b2, 0, none⟩), .pointer (some ⟨b3, 0, none⟩), .bool false, .int .i64 n0, .pointer (some ⟨b5x, 0, none⟩), .pointer (some ⟨b6x, 0, none⟩), .pointer (some ⟨b6y, 0, none⟩), undef, undef, undef, undef, undef, .bool true, .bool false, .pointer (some ⟨b3, 0, none⟩), .int .i64 n0, .pointer (some ⟨b3, 1, none⟩), .int .i64 n1, .pointer (some ⟨b3, 2, none⟩), .int .i64 n2, .int .i64 h, .agg (cfA ⟨0, n1, h, 0, 0, 0⟩), .agg (lpA x), .agg (poA ⟨0, 0, false, 0, pr, x.f4, a, u, x.f2, x.f3, r0, r1, m, (x.v.r : Nat), (x.v.c : Nat), (x.v.b : Nat), (x.v.p : Nat), x.k0, x.k1, x.k2, x.k3⟩), .agg (tvA y), .agg (vcA y), undef, undef, undef, undef, undef, undef, undef, undef, undef, undef, undef, undef, undef, undef, undef, undef, undef, undef, undef, undef, undef, undef, undef, undef, undef, undef, undef, undef, undef, undef, undef, undef, undef, undef, undef, undef, undef, undef, undef, undef, undef, undef, undef, undef, undef, undef, undef, undef, undef, undef, undef, undef, undef, undef, undef, undef, undef, undef, undef, undef, undef, undef, undef, undef, undef, undef, undef, undef, undef, undef, undef, undef, undef, undef, undef, undef, undef, undef, undef, undef, undef, undef, undef, undef, undef, undef, undef, undef, undef, undef, undef, undef, undef, undef, undef, undef, undef], defers := [] } := by unfold HrB; simp only [hall 0 (by decide), hall 1 (by decide), hall 2 (by decide), hall 3 (by decide), hall 4 (by decide), hall 5 (by decide), cond_true]
  rw [hfr]
  clear hfr
  have hne : b6y ≠ b6x := fun e => hd (by rw [e])
  have K1x := (kb_add (K5.out.next hw.from1) hk0 (fun x hx => by have := ((K5.out.all x hx).lt); omega) (Nat.le_trans K5.out.below.size hB0))
  have fr1 : ∀ xq ∈ [(b1, lpA x, 55), (b2, tvA y, 52), (b3, #[.int .i64 n0, .int .i64 n1, .int .i64 n2], 56), (b5x, cfA ⟨0, n1, h, 0, 0, 0⟩, 58), (b6x, poA ⟨0, 0, false, 0, pr, x.f4, a, u, x.f2, x.f3, r0, r1, m, (x.v.r : Nat), (x.v.c : Nat), (x.v.b : Nat), (x.v.p : Nat), x.k0, x.k1, x.k2, x.k3⟩, 62)], xq.1 ≠ b6y := fun xq hx => by
    rcases List.mem_append.1 (show xq ∈ [(b1, lpA x, 55), (b2, tvA y, 52), (b3, #[.int .i64 n0, .int .i64 n1, .int .i64 n2], 56), (b5x, cfA ⟨0, n1, h, 0, 0, 0⟩, 58)] ++ [(b6x, poA ⟨0, 0, false, 0, pr, x.f4, a, u, x.f2, x.f3, r0, r1, m, (x.v.r : Nat), (x.v.c : Nat), (x.v.b : Nat), (x.v.p : Nat), x.k0, x.k1, x.k2, x.k3⟩, 62)] from hx) with hx | hx
    · have := (K5.out.all xq hx).lt; omega
    · rw [List.mem_singleton.1 hx]; exact fun e => hne e.symm
  have K6 := Lib.hid (show Kb w [(b1, lpA x, 55), (b2, tvA y, 52), (b3, #[.int .i64 n0, .int .i64 n1, .int .i64 n2], 56), (b5x, cfA ⟨0, n1, h, 0, 0, 0⟩, 58), (b6x, poA ⟨0, 0, false, 0, pr, x.f4, a, u, x.f2, x.f3, r0, r1, m, (x.v.r : Nat), (x.v.c : Nat), (x.v.b : Nat), (x.v.p : Nat), x.k0, x.k1, x.k2, x.k3⟩, 62), (b6y, vcA y, 44)] w6 from kb_add K1x hk1 fr1 (Nat.le_trans K5.out.below.size hB1))
  clear K1x fr1 hne hd
  clear hw hall
  go_upto_region 5 with fail
  refine wp_region_lit ?_
  refine wpList_val (.agg (poA ⟨0, 0, false, 0, pr, x.f4, a, u, x.f2, x.f3, r0, r1, m, (x.v.r : Nat), (x.v.c : Nat), (x.v.b : Nat), (x.v.p : Nat), x.k0, x.k1, x.k2, x.k3⟩)) (by rfl) (kb_all K6.out 4 rfl 62 _ rfl rfl Try.underlying62 rfl (size50)) ?_
  (try simp only [Act.put, List.getElem_toArray, List.getElem_cons_succ, List.getElem_cons_zero, List.setIfInBounds_toArray, List.set_cons_zero, List.set_cons_succ])
  refine wpList_val (.agg (vcA y)) (by rfl) (kb_all K6.out 5 rfl 44 _ rfl rfl Try.underlying44 rfl (sizeV)) ?_
  (try simp only [Act.put, List.getElem_toArray, List.getElem_cons_succ, List.getElem_cons_zero, List.setIfInBounds_toArray, List.set_cons_zero, List.set_cons_succ])
  refine wpList_val (.int .i64 n0) (by rfl) (by go_simp) ?_
  (try simp only [Act.put, List.getElem_toArray, List.getElem_cons_succ, List.getElem_cons_zero, List.setIfInBounds_toArray, List.set_cons_zero, List.set_cons_succ])
  refine wpList_val (.agg (cfA ⟨0, n1, h, 0, 0, 0⟩)) (by rfl) (kb_all K6.out 3 rfl 58 _ rfl rfl Try.underlying58 rfl (size34)) ?_
  (try simp only [Act.put, List.getElem_toArray, List.getElem_cons_succ, List.getElem_cons_zero, List.setIfInBounds_toArray, List.set_cons_zero, List.set_cons_succ])
  refine kb_call K6.out 17 #[.agg (poA ⟨0, 0, false, 0, pr, x.f4, a, u, x.f2, x.f3, r0, r1, m, (x.v.r : Nat), (x.v.c : Nat), (x.v.b : Nat), (x.v.p : Nat), x.k0, x.k1, x.k2, x.k3⟩), .agg (vcA y), .int .i64 n0, .agg (cfA ⟨0, n1, h, 0, 0, 0⟩)] (.tuple #[.agg (poA Q), .int .i64 k]) (by rfl) (by go_simp) (hear_is ⟨0, 0, false, 0, pr, x.f4, a, u, x.f2, x.f3, r0, r1, m, (x.v.r : Nat), (x.v.c : Nat), (x.v.b : Nat), (x.v.p : Nat), x.k0, x.k1, x.k2, x.k3⟩ x.v y ⟨0, 0, false, 0, pr, x.f4, a, u, x.f2, x.f3, r0, r1, m, (x.v.r : Nat), (x.v.c : Nat), (x.v.b : Nat), (x.v.p : Nat), x.k0, x.k1, x.k2, x.k3⟩ n0 ⟨0, n1, h, 0, 0, 0⟩ Q k rfl HQ.out.symm HK.out.symm w6) ?_
  intro w7 hk
  have K7 := Lib.hid (show Kb w [(b1, lpA x, 55), (b2, tvA y, 52), (b3, #[.int .i64 n0, .int .i64 n1, .int .i64 n2], 56), (b5x, cfA ⟨0, n1, h, 0, 0, 0⟩, 58), (b6x, poA ⟨0, 0, false, 0, pr, x.f4, a, u, x.f2, x.f3, r0, r1, m, (x.v.r : Nat), (x.v.c : Nat), (x.v.b : Nat), (x.v.p : Nat), x.k0, x.k1, x.k2, x.k3⟩, 62), (b6y, vcA y, 44)] w7 from hk)
  clear hk
  (try simp only [Act.put, List.getElem_toArray, List.getElem_cons_succ, List.getElem_cons_zero, List.setIfInBounds_toArray, List.set_cons_zero, List.set_cons_succ])
  refine wpList_val (.tuple #[.agg (poA Q), .int .i64 k]) (by rfl) (by go_simp) ?_
  (try simp only [Act.put, List.getElem_toArray, List.getElem_cons_succ, List.getElem_cons_zero, List.setIfInBounds_toArray, List.set_cons_zero, List.set_cons_succ])
  refine wpList_val (.agg (poA Q)) (by rfl) (by go_simp) ?_
  (try simp only [Act.put, List.getElem_toArray, List.getElem_cons_succ, List.getElem_cons_zero, List.setIfInBounds_toArray, List.set_cons_zero, List.set_cons_succ])
  refine wpList_val (.int .i64 k) (by rfl) (by go_simp) ?_
  (try simp only [Act.put, List.getElem_toArray, List.getElem_cons_succ, List.getElem_cons_zero, List.setIfInBounds_toArray, List.set_cons_zero, List.set_cons_succ])
  refine kb_alloc K7.out 62 (nil21) rfl z50 (by rfl) ?_
  intro b8 w8 hb8 hk
  have K8 := Lib.hid (show Kb w [(b1, lpA x, 55), (b2, tvA y, 52), (b3, #[.int .i64 n0, .int .i64 n1, .int .i64 n2], 56), (b5x, cfA ⟨0, n1, h, 0, 0, 0⟩, 58), (b6x, poA ⟨0, 0, false, 0, pr, x.f4, a, u, x.f2, x.f3, r0, r1, m, (x.v.r : Nat), (x.v.c : Nat), (x.v.b : Nat), (x.v.p : Nat), x.k0, x.k1, x.k2, x.k3⟩, 62), (b6y, vcA y, 44), (b8, nil21, 62)] w8 from hk)
  clear hk hb8
  (try simp only [Act.put, List.getElem_toArray, List.getElem_cons_succ, List.getElem_cons_zero, List.setIfInBounds_toArray, List.set_cons_zero, List.set_cons_succ])
  refine kb_row K8.out 6 rfl 62 _ _ (poA Q) rfl rfl rfl rfl (size50) (by rfl) (po_all _) ?_
  intro w9 hk
  have K9 := Lib.hid (show Kb w [(b1, lpA x, 55), (b2, tvA y, 52), (b3, #[.int .i64 n0, .int .i64 n1, .int .i64 n2], 56), (b5x, cfA ⟨0, n1, h, 0, 0, 0⟩, 58), (b6x, poA ⟨0, 0, false, 0, pr, x.f4, a, u, x.f2, x.f3, r0, r1, m, (x.v.r : Nat), (x.v.c : Nat), (x.v.b : Nat), (x.v.p : Nat), x.k0, x.k1, x.k2, x.k3⟩, 62), (b6y, vcA y, 44), (b8, poA Q, 62)] w9 from hk)
  clear hk
  (try simp only [Act.put, List.getElem_toArray, List.getElem_cons_succ, List.getElem_cons_zero, List.setIfInBounds_toArray, List.set_cons_zero, List.set_cons_succ])
  refine wpList_val (.int .i64 k) (by rfl) (by go_simp) ?_
  (try simp only [Act.put, List.getElem_toArray, List.getElem_cons_succ, List.getElem_cons_zero, List.setIfInBounds_toArray, List.set_cons_zero, List.set_cons_succ])
  refine wpList_nil ?_
  go_upto_region 6 with fail
  cases u
  case false =>
    have hO : hearOld ⟨0, 0, false, 0, pr, x.f4, a, false, x.f2, x.f3, r0, r1, m, (x.v.r : Nat), (x.v.c : Nat), (x.v.b : Nat), (x.v.p : Nat), x.k0, x.k1, x.k2, x.k3⟩ n0 ⟨0, n1, h, 0, 0, 0⟩ = true := by simp [hearOld, onP]
    have hQ : Q = ⟨0, 0, false, 0, pr, x.f4, a, false, x.f2, x.f3, r0, r1, m, (x.v.r : Nat), (x.v.c : Nat), (x.v.b : Nat), (x.v.p : Nat), x.k0, x.k1, x.k2, x.k3⟩ := by rw [HQ.out]; unfold hearP; rw [hO]; rfl
    have hK : k = 0 := by rw [HK.out]; unfold hearN; rw [hO]; rfl
    have HQ2 := Lib.hid hQ
    have HK2 := Lib.hid hK
    clear hQ hK
    clear hO
    refine wp_region_lit ?_
    refine wpList_val (.pointer (some ⟨b6x, 7, none⟩)) (by rfl) (by go_simp) ?_
    (try simp only [Act.put, List.getElem_toArray, List.getElem_cons_succ, List.getElem_cons_zero, List.setIfInBounds_toArray, List.set_cons_zero, List.set_cons_succ])
    refine wpList_val (.bool false) (by rfl) (by have q : w9.cell? ⟨b6x, 7, none⟩ = some (.bool false) := K9.out.cell (i := 4) rfl (by rfl); go_simp) ?_
    (try simp only [Act.put, List.getElem_toArray, List.getElem_cons_succ, List.getElem_cons_zero, List.setIfInBounds_toArray, List.set_cons_zero, List.set_cons_succ])
    refine wpList_val (.bool false) (by rfl) (by go_simp) ?_
    (try simp only [Act.put, List.getElem_toArray, List.getElem_cons_succ, List.getElem_cons_zero, List.setIfInBounds_toArray, List.set_cons_zero, List.set_cons_succ])
    refine wpList_skip (by kernel_rfl) ?_
    (try simp only [Act.put, List.getElem_toArray, List.getElem_cons_succ, List.getElem_cons_zero, List.setIfInBounds_toArray, List.set_cons_zero, List.set_cons_succ])
    refine wpList_skip (by kernel_rfl) ?_
    (try simp only [Act.put, List.getElem_toArray, List.getElem_cons_succ, List.getElem_cons_zero, List.setIfInBounds_toArray, List.set_cons_zero, List.set_cons_succ])
    refine wpList_val (.bool false) (by rfl) (run_pick_no (.tmp 40) (.tmp 42) (.const (.bool false)) _ rfl rfl rfl) ?_
    (try simp only [Act.put, List.getElem_toArray, List.getElem_cons_succ, List.getElem_cons_zero, List.setIfInBounds_toArray, List.set_cons_zero, List.set_cons_succ])
    refine wpList_val (.bool true) (by rfl) (by go_simp) ?_
    (try simp only [Act.put, List.getElem_toArray, List.getElem_cons_succ, List.getElem_cons_zero, List.setIfInBounds_toArray, List.set_cons_zero, List.set_cons_succ])
    refine wpList_val (.bool true) (by rfl) (by go_simp) ?_
    (try simp only [Act.put, List.getElem_toArray, List.getElem_cons_succ, List.getElem_cons_zero, List.setIfInBounds_toArray, List.set_cons_zero, List.set_cons_succ])
    refine wpList_skip (by kernel_rfl) ?_
    (try simp only [Act.put, List.getElem_toArray, List.getElem_cons_succ, List.getElem_cons_zero, List.setIfInBounds_toArray, List.set_cons_zero, List.set_cons_succ])
    refine wpList_skip (by kernel_rfl) ?_
    (try simp only [Act.put, List.getElem_toArray, List.getElem_cons_succ, List.getElem_cons_zero, List.setIfInBounds_toArray, List.set_cons_zero, List.set_cons_succ])
    refine wpList_val (.bool true) (by rfl) (run_pick_yes (.tmp 45) (.const (.bool true)) (.tmp 47) _ rfl rfl rfl) ?_
    (try simp only [Act.put, List.getElem_toArray, List.getElem_cons_succ, List.getElem_cons_zero, List.setIfInBounds_toArray, List.set_cons_zero, List.set_cons_succ])
    refine wpList_val (.bool true) (by rfl) (by go_simp) ?_
    (try simp only [Act.put, List.getElem_toArray, List.getElem_cons_succ, List.getElem_cons_zero, List.setIfInBounds_toArray, List.set_cons_zero, List.set_cons_succ])
    refine wpList_skip (by kernel_rfl) ?_
    (try simp only [Act.put, List.getElem_toArray, List.getElem_cons_succ, List.getElem_cons_zero, List.setIfInBounds_toArray, List.set_cons_zero, List.set_cons_succ])
    refine wpList_skip (by kernel_rfl) ?_
    (try simp only [Act.put, List.getElem_toArray, List.getElem_cons_succ, List.getElem_cons_zero, List.setIfInBounds_toArray, List.set_cons_zero, List.set_cons_succ])
    refine wpList_skip (by kernel_rfl) ?_
    (try simp only [Act.put, List.getElem_toArray, List.getElem_cons_succ, List.getElem_cons_zero, List.setIfInBounds_toArray, List.set_cons_zero, List.set_cons_succ])
    refine wpList_skip (by kernel_rfl) ?_
    (try simp only [Act.put, List.getElem_toArray, List.getElem_cons_succ, List.getElem_cons_zero, List.setIfInBounds_toArray, List.set_cons_zero, List.set_cons_succ])
    refine wpList_val (.bool true) (by rfl) (run_pick_yes (.tmp 49) (.const (.bool true)) (.tmp 53) _ rfl rfl rfl) ?_
    (try simp only [Act.put, List.getElem_toArray, List.getElem_cons_succ, List.getElem_cons_zero, List.setIfInBounds_toArray, List.set_cons_zero, List.set_cons_succ])
    refine wpList_nil ?_
    go_upto_region 7 with fail
    refine wp_region_lit ?_
    refine wpList_val (.int .i64 k) (by rfl) (by go_simp) ?_
    (try simp only [Act.put, List.getElem_toArray, List.getElem_cons_succ, List.getElem_cons_zero, List.setIfInBounds_toArray, List.set_cons_zero, List.set_cons_succ])
    refine wpList_val (.bool true) (by rfl) (by have q := HK2.out; go_simp) ?_
    (try simp only [Act.put, List.getElem_toArray, List.getElem_cons_succ, List.getElem_cons_zero, List.setIfInBounds_toArray, List.set_cons_zero, List.set_cons_succ])
    refine wpList_val (.bool true) (by rfl) (by go_simp) ?_
    (try simp only [Act.put, List.getElem_toArray, List.getElem_cons_succ, List.getElem_cons_zero, List.setIfInBounds_toArray, List.set_cons_zero, List.set_cons_succ])
    refine wpList_val (.agg (poA Q)) (by rfl) (kb_all K9.out 6 rfl 62 _ rfl rfl Try.underlying62 rfl (size50)) ?_
    (try simp only [Act.put, List.getElem_toArray, List.getElem_cons_succ, List.getElem_cons_zero, List.setIfInBounds_toArray, List.set_cons_zero, List.set_cons_succ])
    refine wpList_val (.agg (poA ⟨0, 0, false, 0, pr, x.f4, a, false, x.f2, x.f3, r0, r1, m, (x.v.r : Nat), (x.v.c : Nat), (x.v.b : Nat), (x.v.p : Nat), x.k0, x.k1, x.k2, x.k3⟩)) (by rfl) (kb_all K9.out 4 rfl 62 _ rfl rfl Try.underlying62 rfl (size50)) ?_
    (try simp only [Act.put, List.getElem_toArray, List.getElem_cons_succ, List.getElem_cons_zero, List.setIfInBounds_toArray, List.set_cons_zero, List.set_cons_succ])
    refine wpList_val (.bool true) (by rfl) (by have q := eq_po2 HQ2.out; go_simp) ?_
    (try simp only [Act.put, List.getElem_toArray, List.getElem_cons_succ, List.getElem_cons_zero, List.setIfInBounds_toArray, List.set_cons_zero, List.set_cons_succ])
    refine wpList_val (.bool true) (by rfl) (run_pick_yes (.tmp 57) (.tmp 60) (.const (.bool false)) _ rfl rfl rfl) ?_
    (try simp only [Act.put, List.getElem_toArray, List.getElem_cons_succ, List.getElem_cons_zero, List.setIfInBounds_toArray, List.set_cons_zero, List.set_cons_succ])
    refine wpList_val (.bool true) (by rfl) (by go_simp) ?_
    (try simp only [Act.put, List.getElem_toArray, List.getElem_cons_succ, List.getElem_cons_zero, List.setIfInBounds_toArray, List.set_cons_zero, List.set_cons_succ])
    refine wpList_nil ?_
    go_wp2_with fail
    go_ret
    exact ⟨ret_bool (rfl), K9.out.below⟩
  case true =>
    cases a
    case false =>
      have hO : hearOld ⟨0, 0, false, 0, pr, x.f4, false, true, x.f2, x.f3, r0, r1, m, (x.v.r : Nat), (x.v.c : Nat), (x.v.b : Nat), (x.v.p : Nat), x.k0, x.k1, x.k2, x.k3⟩ n0 ⟨0, n1, h, 0, 0, 0⟩ = true := by simp [hearOld, onP]
      have hQ : Q = ⟨0, 0, false, 0, pr, x.f4, false, true, x.f2, x.f3, r0, r1, m, (x.v.r : Nat), (x.v.c : Nat), (x.v.b : Nat), (x.v.p : Nat), x.k0, x.k1, x.k2, x.k3⟩ := by rw [HQ.out]; unfold hearP; rw [hO]; rfl
      have hK : k = 0 := by rw [HK.out]; unfold hearN; rw [hO]; rfl
      have HQ2 := Lib.hid hQ
      have HK2 := Lib.hid hK
      clear hQ hK
      clear hO
      refine wp_region_lit ?_
      refine wpList_val (.pointer (some ⟨b6x, 7, none⟩)) (by rfl) (by go_simp) ?_
      (try simp only [Act.put, List.getElem_toArray, List.getElem_cons_succ, List.getElem_cons_zero, List.setIfInBounds_toArray, List.set_cons_zero, List.set_cons_succ])
      refine wpList_val (.bool true) (by rfl) (by have q : w9.cell? ⟨b6x, 7, none⟩ = some (.bool true) := K9.out.cell (i := 4) rfl (by rfl); go_simp) ?_
      (try simp only [Act.put, List.getElem_toArray, List.getElem_cons_succ, List.getElem_cons_zero, List.setIfInBounds_toArray, List.set_cons_zero, List.set_cons_succ])
      refine wpList_val (.bool true) (by rfl) (by go_simp) ?_
      (try simp only [Act.put, List.getElem_toArray, List.getElem_cons_succ, List.getElem_cons_zero, List.setIfInBounds_toArray, List.set_cons_zero, List.set_cons_succ])
      refine wpList_val (.pointer (some ⟨b6x, 6, none⟩)) (by rfl) (by go_simp) ?_
      (try simp only [Act.put, List.getElem_toArray, List.getElem_cons_succ, List.getElem_cons_zero, List.setIfInBounds_toArray, List.set_cons_zero, List.set_cons_succ])
      refine wpList_val (.bool false) (by rfl) (by have q : w9.cell? ⟨b6x, 6, none⟩ = some (.bool false) := K9.out.cell (i := 4) rfl (by rfl); go_simp) ?_
      (try simp only [Act.put, List.getElem_toArray, List.getElem_cons_succ, List.getElem_cons_zero, List.setIfInBounds_toArray, List.set_cons_zero, List.set_cons_succ])
      refine wpList_val (.bool false) (by rfl) (run_pick_yes (.tmp 40) (.tmp 42) (.const (.bool false)) _ rfl rfl rfl) ?_
      (try simp only [Act.put, List.getElem_toArray, List.getElem_cons_succ, List.getElem_cons_zero, List.setIfInBounds_toArray, List.set_cons_zero, List.set_cons_succ])
      refine wpList_val (.bool true) (by rfl) (by go_simp) ?_
      (try simp only [Act.put, List.getElem_toArray, List.getElem_cons_succ, List.getElem_cons_zero, List.setIfInBounds_toArray, List.set_cons_zero, List.set_cons_succ])
      refine wpList_val (.bool true) (by rfl) (by go_simp) ?_
      (try simp only [Act.put, List.getElem_toArray, List.getElem_cons_succ, List.getElem_cons_zero, List.setIfInBounds_toArray, List.set_cons_zero, List.set_cons_succ])
      refine wpList_skip (by kernel_rfl) ?_
      (try simp only [Act.put, List.getElem_toArray, List.getElem_cons_succ, List.getElem_cons_zero, List.setIfInBounds_toArray, List.set_cons_zero, List.set_cons_succ])
      refine wpList_skip (by kernel_rfl) ?_
      (try simp only [Act.put, List.getElem_toArray, List.getElem_cons_succ, List.getElem_cons_zero, List.setIfInBounds_toArray, List.set_cons_zero, List.set_cons_succ])
      refine wpList_val (.bool true) (by rfl) (run_pick_yes (.tmp 45) (.const (.bool true)) (.tmp 47) _ rfl rfl rfl) ?_
      (try simp only [Act.put, List.getElem_toArray, List.getElem_cons_succ, List.getElem_cons_zero, List.setIfInBounds_toArray, List.set_cons_zero, List.set_cons_succ])
      refine wpList_val (.bool true) (by rfl) (by go_simp) ?_
      (try simp only [Act.put, List.getElem_toArray, List.getElem_cons_succ, List.getElem_cons_zero, List.setIfInBounds_toArray, List.set_cons_zero, List.set_cons_succ])
      refine wpList_skip (by kernel_rfl) ?_
      (try simp only [Act.put, List.getElem_toArray, List.getElem_cons_succ, List.getElem_cons_zero, List.setIfInBounds_toArray, List.set_cons_zero, List.set_cons_succ])
      refine wpList_skip (by kernel_rfl) ?_
      (try simp only [Act.put, List.getElem_toArray, List.getElem_cons_succ, List.getElem_cons_zero, List.setIfInBounds_toArray, List.set_cons_zero, List.set_cons_succ])
      refine wpList_skip (by kernel_rfl) ?_
      (try simp only [Act.put, List.getElem_toArray, List.getElem_cons_succ, List.getElem_cons_zero, List.setIfInBounds_toArray, List.set_cons_zero, List.set_cons_succ])
      refine wpList_skip (by kernel_rfl) ?_
      (try simp only [Act.put, List.getElem_toArray, List.getElem_cons_succ, List.getElem_cons_zero, List.setIfInBounds_toArray, List.set_cons_zero, List.set_cons_succ])
      refine wpList_val (.bool true) (by rfl) (run_pick_yes (.tmp 49) (.const (.bool true)) (.tmp 53) _ rfl rfl rfl) ?_
      (try simp only [Act.put, List.getElem_toArray, List.getElem_cons_succ, List.getElem_cons_zero, List.setIfInBounds_toArray, List.set_cons_zero, List.set_cons_succ])
      refine wpList_nil ?_
      go_upto_region 7 with fail
      refine wp_region_lit ?_
      refine wpList_val (.int .i64 k) (by rfl) (by go_simp) ?_
      (try simp only [Act.put, List.getElem_toArray, List.getElem_cons_succ, List.getElem_cons_zero, List.setIfInBounds_toArray, List.set_cons_zero, List.set_cons_succ])
      refine wpList_val (.bool true) (by rfl) (by have q := HK2.out; go_simp) ?_
      (try simp only [Act.put, List.getElem_toArray, List.getElem_cons_succ, List.getElem_cons_zero, List.setIfInBounds_toArray, List.set_cons_zero, List.set_cons_succ])
      refine wpList_val (.bool true) (by rfl) (by go_simp) ?_
      (try simp only [Act.put, List.getElem_toArray, List.getElem_cons_succ, List.getElem_cons_zero, List.setIfInBounds_toArray, List.set_cons_zero, List.set_cons_succ])
      refine wpList_val (.agg (poA Q)) (by rfl) (kb_all K9.out 6 rfl 62 _ rfl rfl Try.underlying62 rfl (size50)) ?_
      (try simp only [Act.put, List.getElem_toArray, List.getElem_cons_succ, List.getElem_cons_zero, List.setIfInBounds_toArray, List.set_cons_zero, List.set_cons_succ])
      refine wpList_val (.agg (poA ⟨0, 0, false, 0, pr, x.f4, false, true, x.f2, x.f3, r0, r1, m, (x.v.r : Nat), (x.v.c : Nat), (x.v.b : Nat), (x.v.p : Nat), x.k0, x.k1, x.k2, x.k3⟩)) (by rfl) (kb_all K9.out 4 rfl 62 _ rfl rfl Try.underlying62 rfl (size50)) ?_
      (try simp only [Act.put, List.getElem_toArray, List.getElem_cons_succ, List.getElem_cons_zero, List.setIfInBounds_toArray, List.set_cons_zero, List.set_cons_succ])
      refine wpList_val (.bool true) (by rfl) (by have q := eq_po2 HQ2.out; go_simp) ?_
      (try simp only [Act.put, List.getElem_toArray, List.getElem_cons_succ, List.getElem_cons_zero, List.setIfInBounds_toArray, List.set_cons_zero, List.set_cons_succ])
      refine wpList_val (.bool true) (by rfl) (run_pick_yes (.tmp 57) (.tmp 60) (.const (.bool false)) _ rfl rfl rfl) ?_
      (try simp only [Act.put, List.getElem_toArray, List.getElem_cons_succ, List.getElem_cons_zero, List.setIfInBounds_toArray, List.set_cons_zero, List.set_cons_succ])
      refine wpList_val (.bool true) (by rfl) (by go_simp) ?_
      (try simp only [Act.put, List.getElem_toArray, List.getElem_cons_succ, List.getElem_cons_zero, List.setIfInBounds_toArray, List.set_cons_zero, List.set_cons_succ])
      refine wpList_nil ?_
      go_wp2_with fail
      go_ret
      exact ⟨ret_bool (rfl), K9.out.below⟩
    case true =>
      by_cases hag : n0 < 0
      case pos =>
        have hO : hearOld ⟨0, 0, false, 0, pr, x.f4, true, true, x.f2, x.f3, r0, r1, m, (x.v.r : Nat), (x.v.c : Nat), (x.v.b : Nat), (x.v.p : Nat), x.k0, x.k1, x.k2, x.k3⟩ n0 ⟨0, n1, h, 0, 0, 0⟩ = true := by simp [hearOld, onP, hag]
        have hQ : Q = ⟨0, 0, false, 0, pr, x.f4, true, true, x.f2, x.f3, r0, r1, m, (x.v.r : Nat), (x.v.c : Nat), (x.v.b : Nat), (x.v.p : Nat), x.k0, x.k1, x.k2, x.k3⟩ := by rw [HQ.out]; unfold hearP; rw [hO]; rfl
        have hK : k = 0 := by rw [HK.out]; unfold hearN; rw [hO]; rfl
        have HQ2 := Lib.hid hQ
        have HK2 := Lib.hid hK
        clear hQ hK
        clear hO
        refine wp_region_lit ?_
        refine wpList_val (.pointer (some ⟨b6x, 7, none⟩)) (by rfl) (by go_simp) ?_
        (try simp only [Act.put, List.getElem_toArray, List.getElem_cons_succ, List.getElem_cons_zero, List.setIfInBounds_toArray, List.set_cons_zero, List.set_cons_succ])
        refine wpList_val (.bool true) (by rfl) (by have q : w9.cell? ⟨b6x, 7, none⟩ = some (.bool true) := K9.out.cell (i := 4) rfl (by rfl); go_simp) ?_
        (try simp only [Act.put, List.getElem_toArray, List.getElem_cons_succ, List.getElem_cons_zero, List.setIfInBounds_toArray, List.set_cons_zero, List.set_cons_succ])
        refine wpList_val (.bool true) (by rfl) (by go_simp) ?_
        (try simp only [Act.put, List.getElem_toArray, List.getElem_cons_succ, List.getElem_cons_zero, List.setIfInBounds_toArray, List.set_cons_zero, List.set_cons_succ])
        refine wpList_val (.pointer (some ⟨b6x, 6, none⟩)) (by rfl) (by go_simp) ?_
        (try simp only [Act.put, List.getElem_toArray, List.getElem_cons_succ, List.getElem_cons_zero, List.setIfInBounds_toArray, List.set_cons_zero, List.set_cons_succ])
        refine wpList_val (.bool true) (by rfl) (by have q : w9.cell? ⟨b6x, 6, none⟩ = some (.bool true) := K9.out.cell (i := 4) rfl (by rfl); go_simp) ?_
        (try simp only [Act.put, List.getElem_toArray, List.getElem_cons_succ, List.getElem_cons_zero, List.setIfInBounds_toArray, List.set_cons_zero, List.set_cons_succ])
        refine wpList_val (.bool true) (by rfl) (run_pick_yes (.tmp 40) (.tmp 42) (.const (.bool false)) _ rfl rfl rfl) ?_
        (try simp only [Act.put, List.getElem_toArray, List.getElem_cons_succ, List.getElem_cons_zero, List.setIfInBounds_toArray, List.set_cons_zero, List.set_cons_succ])
        refine wpList_val (.bool false) (by rfl) (by go_simp) ?_
        (try simp only [Act.put, List.getElem_toArray, List.getElem_cons_succ, List.getElem_cons_zero, List.setIfInBounds_toArray, List.set_cons_zero, List.set_cons_succ])
        refine wpList_val (.bool false) (by rfl) (by go_simp) ?_
        (try simp only [Act.put, List.getElem_toArray, List.getElem_cons_succ, List.getElem_cons_zero, List.setIfInBounds_toArray, List.set_cons_zero, List.set_cons_succ])
        refine wpList_val (.int .i64 n0) (by rfl) (by go_simp) ?_
        (try simp only [Act.put, List.getElem_toArray, List.getElem_cons_succ, List.getElem_cons_zero, List.setIfInBounds_toArray, List.set_cons_zero, List.set_cons_succ])
        refine wpList_val (.bool true) (by rfl) (by have q := hag; go_simp) ?_
        (try simp only [Act.put, List.getElem_toArray, List.getElem_cons_succ, List.getElem_cons_zero, List.setIfInBounds_toArray, List.set_cons_zero, List.set_cons_succ])
        refine wpList_val (.bool true) (by rfl) (run_pick_no (.tmp 45) (.const (.bool true)) (.tmp 47) _ rfl rfl rfl) ?_
        (try simp only [Act.put, List.getElem_toArray, List.getElem_cons_succ, List.getElem_cons_zero, List.setIfInBounds_toArray, List.set_cons_zero, List.set_cons_succ])
        refine wpList_val (.bool true) (by rfl) (by go_simp) ?_
        (try simp only [Act.put, List.getElem_toArray, List.getElem_cons_succ, List.getElem_cons_zero, List.setIfInBounds_toArray, List.set_cons_zero, List.set_cons_succ])
        refine wpList_skip (by kernel_rfl) ?_
        (try simp only [Act.put, List.getElem_toArray, List.getElem_cons_succ, List.getElem_cons_zero, List.setIfInBounds_toArray, List.set_cons_zero, List.set_cons_succ])
        refine wpList_skip (by kernel_rfl) ?_
        (try simp only [Act.put, List.getElem_toArray, List.getElem_cons_succ, List.getElem_cons_zero, List.setIfInBounds_toArray, List.set_cons_zero, List.set_cons_succ])
        refine wpList_skip (by kernel_rfl) ?_
        (try simp only [Act.put, List.getElem_toArray, List.getElem_cons_succ, List.getElem_cons_zero, List.setIfInBounds_toArray, List.set_cons_zero, List.set_cons_succ])
        refine wpList_skip (by kernel_rfl) ?_
        (try simp only [Act.put, List.getElem_toArray, List.getElem_cons_succ, List.getElem_cons_zero, List.setIfInBounds_toArray, List.set_cons_zero, List.set_cons_succ])
        refine wpList_val (.bool true) (by rfl) (run_pick_yes (.tmp 49) (.const (.bool true)) (.tmp 53) _ rfl rfl rfl) ?_
        (try simp only [Act.put, List.getElem_toArray, List.getElem_cons_succ, List.getElem_cons_zero, List.setIfInBounds_toArray, List.set_cons_zero, List.set_cons_succ])
        refine wpList_nil ?_
        go_upto_region 7 with fail
        refine wp_region_lit ?_
        refine wpList_val (.int .i64 k) (by rfl) (by go_simp) ?_
        (try simp only [Act.put, List.getElem_toArray, List.getElem_cons_succ, List.getElem_cons_zero, List.setIfInBounds_toArray, List.set_cons_zero, List.set_cons_succ])
        refine wpList_val (.bool true) (by rfl) (by have q := HK2.out; go_simp) ?_
        (try simp only [Act.put, List.getElem_toArray, List.getElem_cons_succ, List.getElem_cons_zero, List.setIfInBounds_toArray, List.set_cons_zero, List.set_cons_succ])
        refine wpList_val (.bool true) (by rfl) (by go_simp) ?_
        (try simp only [Act.put, List.getElem_toArray, List.getElem_cons_succ, List.getElem_cons_zero, List.setIfInBounds_toArray, List.set_cons_zero, List.set_cons_succ])
        refine wpList_val (.agg (poA Q)) (by rfl) (kb_all K9.out 6 rfl 62 _ rfl rfl Try.underlying62 rfl (size50)) ?_
        (try simp only [Act.put, List.getElem_toArray, List.getElem_cons_succ, List.getElem_cons_zero, List.setIfInBounds_toArray, List.set_cons_zero, List.set_cons_succ])
        refine wpList_val (.agg (poA ⟨0, 0, false, 0, pr, x.f4, true, true, x.f2, x.f3, r0, r1, m, (x.v.r : Nat), (x.v.c : Nat), (x.v.b : Nat), (x.v.p : Nat), x.k0, x.k1, x.k2, x.k3⟩)) (by rfl) (kb_all K9.out 4 rfl 62 _ rfl rfl Try.underlying62 rfl (size50)) ?_
        (try simp only [Act.put, List.getElem_toArray, List.getElem_cons_succ, List.getElem_cons_zero, List.setIfInBounds_toArray, List.set_cons_zero, List.set_cons_succ])
        refine wpList_val (.bool true) (by rfl) (by have q := eq_po2 HQ2.out; go_simp) ?_
        (try simp only [Act.put, List.getElem_toArray, List.getElem_cons_succ, List.getElem_cons_zero, List.setIfInBounds_toArray, List.set_cons_zero, List.set_cons_succ])
        refine wpList_val (.bool true) (by rfl) (run_pick_yes (.tmp 57) (.tmp 60) (.const (.bool false)) _ rfl rfl rfl) ?_
        (try simp only [Act.put, List.getElem_toArray, List.getElem_cons_succ, List.getElem_cons_zero, List.setIfInBounds_toArray, List.set_cons_zero, List.set_cons_succ])
        refine wpList_val (.bool true) (by rfl) (by go_simp) ?_
        (try simp only [Act.put, List.getElem_toArray, List.getElem_cons_succ, List.getElem_cons_zero, List.setIfInBounds_toArray, List.set_cons_zero, List.set_cons_succ])
        refine wpList_nil ?_
        go_wp2_with fail
        go_ret
        exact ⟨ret_bool (rfl), K9.out.below⟩
      case neg =>
        by_cases hmx : n1 ≤ n0
        case pos =>
          have hO : hearOld ⟨0, 0, false, 0, pr, x.f4, true, true, x.f2, x.f3, r0, r1, m, (x.v.r : Nat), (x.v.c : Nat), (x.v.b : Nat), (x.v.p : Nat), x.k0, x.k1, x.k2, x.k3⟩ n0 ⟨0, n1, h, 0, 0, 0⟩ = true := by simp [hearOld, onP, hmx]
          have hQ : Q = ⟨0, 0, false, 0, pr, x.f4, true, true, x.f2, x.f3, r0, r1, m, (x.v.r : Nat), (x.v.c : Nat), (x.v.b : Nat), (x.v.p : Nat), x.k0, x.k1, x.k2, x.k3⟩ := by rw [HQ.out]; unfold hearP; rw [hO]; rfl
          have hK : k = 0 := by rw [HK.out]; unfold hearN; rw [hO]; rfl
          have HQ2 := Lib.hid hQ
          have HK2 := Lib.hid hK
          clear hQ hK
          clear hO
          refine wp_region_lit ?_
          refine wpList_val (.pointer (some ⟨b6x, 7, none⟩)) (by rfl) (by go_simp) ?_
          (try simp only [Act.put, List.getElem_toArray, List.getElem_cons_succ, List.getElem_cons_zero, List.setIfInBounds_toArray, List.set_cons_zero, List.set_cons_succ])
          refine wpList_val (.bool true) (by rfl) (by have q : w9.cell? ⟨b6x, 7, none⟩ = some (.bool true) := K9.out.cell (i := 4) rfl (by rfl); go_simp) ?_
          (try simp only [Act.put, List.getElem_toArray, List.getElem_cons_succ, List.getElem_cons_zero, List.setIfInBounds_toArray, List.set_cons_zero, List.set_cons_succ])
          refine wpList_val (.bool true) (by rfl) (by go_simp) ?_
          (try simp only [Act.put, List.getElem_toArray, List.getElem_cons_succ, List.getElem_cons_zero, List.setIfInBounds_toArray, List.set_cons_zero, List.set_cons_succ])
          refine wpList_val (.pointer (some ⟨b6x, 6, none⟩)) (by rfl) (by go_simp) ?_
          (try simp only [Act.put, List.getElem_toArray, List.getElem_cons_succ, List.getElem_cons_zero, List.setIfInBounds_toArray, List.set_cons_zero, List.set_cons_succ])
          refine wpList_val (.bool true) (by rfl) (by have q : w9.cell? ⟨b6x, 6, none⟩ = some (.bool true) := K9.out.cell (i := 4) rfl (by rfl); go_simp) ?_
          (try simp only [Act.put, List.getElem_toArray, List.getElem_cons_succ, List.getElem_cons_zero, List.setIfInBounds_toArray, List.set_cons_zero, List.set_cons_succ])
          refine wpList_val (.bool true) (by rfl) (run_pick_yes (.tmp 40) (.tmp 42) (.const (.bool false)) _ rfl rfl rfl) ?_
          (try simp only [Act.put, List.getElem_toArray, List.getElem_cons_succ, List.getElem_cons_zero, List.setIfInBounds_toArray, List.set_cons_zero, List.set_cons_succ])
          refine wpList_val (.bool false) (by rfl) (by go_simp) ?_
          (try simp only [Act.put, List.getElem_toArray, List.getElem_cons_succ, List.getElem_cons_zero, List.setIfInBounds_toArray, List.set_cons_zero, List.set_cons_succ])
          refine wpList_val (.bool false) (by rfl) (by go_simp) ?_
          (try simp only [Act.put, List.getElem_toArray, List.getElem_cons_succ, List.getElem_cons_zero, List.setIfInBounds_toArray, List.set_cons_zero, List.set_cons_succ])
          refine wpList_val (.int .i64 n0) (by rfl) (by go_simp) ?_
          (try simp only [Act.put, List.getElem_toArray, List.getElem_cons_succ, List.getElem_cons_zero, List.setIfInBounds_toArray, List.set_cons_zero, List.set_cons_succ])
          refine wpList_val (.bool false) (by rfl) (by have q := hag; go_simp) ?_
          (try simp only [Act.put, List.getElem_toArray, List.getElem_cons_succ, List.getElem_cons_zero, List.setIfInBounds_toArray, List.set_cons_zero, List.set_cons_succ])
          refine wpList_val (.bool false) (by rfl) (run_pick_no (.tmp 45) (.const (.bool true)) (.tmp 47) _ rfl rfl rfl) ?_
          (try simp only [Act.put, List.getElem_toArray, List.getElem_cons_succ, List.getElem_cons_zero, List.setIfInBounds_toArray, List.set_cons_zero, List.set_cons_succ])
          refine wpList_val (.bool false) (by rfl) (by go_simp) ?_
          (try simp only [Act.put, List.getElem_toArray, List.getElem_cons_succ, List.getElem_cons_zero, List.setIfInBounds_toArray, List.set_cons_zero, List.set_cons_succ])
          refine wpList_val (.int .i64 n0) (by rfl) (by go_simp) ?_
          (try simp only [Act.put, List.getElem_toArray, List.getElem_cons_succ, List.getElem_cons_zero, List.setIfInBounds_toArray, List.set_cons_zero, List.set_cons_succ])
          refine wpList_val (.pointer (some ⟨b5x, 1, none⟩)) (by rfl) (by go_simp) ?_
          (try simp only [Act.put, List.getElem_toArray, List.getElem_cons_succ, List.getElem_cons_zero, List.setIfInBounds_toArray, List.set_cons_zero, List.set_cons_succ])
          refine wpList_val (.int .i64 n1) (by rfl) (by have q : w9.cell? ⟨b5x, 1, none⟩ = some (.int .i64 n1) := K9.out.cell (i := 3) rfl (by rfl); go_simp) ?_
          (try simp only [Act.put, List.getElem_toArray, List.getElem_cons_succ, List.getElem_cons_zero, List.setIfInBounds_toArray, List.set_cons_zero, List.set_cons_succ])
          refine wpList_val (.bool true) (by rfl) (by have q := hmx; go_simp) ?_
          (try simp only [Act.put, List.getElem_toArray, List.getElem_cons_succ, List.getElem_cons_zero, List.setIfInBounds_toArray, List.set_cons_zero, List.set_cons_succ])
          refine wpList_val (.bool true) (by rfl) (run_pick_no (.tmp 49) (.const (.bool true)) (.tmp 53) _ rfl rfl rfl) ?_
          (try simp only [Act.put, List.getElem_toArray, List.getElem_cons_succ, List.getElem_cons_zero, List.setIfInBounds_toArray, List.set_cons_zero, List.set_cons_succ])
          refine wpList_nil ?_
          go_upto_region 7 with fail
          refine wp_region_lit ?_
          refine wpList_val (.int .i64 k) (by rfl) (by go_simp) ?_
          (try simp only [Act.put, List.getElem_toArray, List.getElem_cons_succ, List.getElem_cons_zero, List.setIfInBounds_toArray, List.set_cons_zero, List.set_cons_succ])
          refine wpList_val (.bool true) (by rfl) (by have q := HK2.out; go_simp) ?_
          (try simp only [Act.put, List.getElem_toArray, List.getElem_cons_succ, List.getElem_cons_zero, List.setIfInBounds_toArray, List.set_cons_zero, List.set_cons_succ])
          refine wpList_val (.bool true) (by rfl) (by go_simp) ?_
          (try simp only [Act.put, List.getElem_toArray, List.getElem_cons_succ, List.getElem_cons_zero, List.setIfInBounds_toArray, List.set_cons_zero, List.set_cons_succ])
          refine wpList_val (.agg (poA Q)) (by rfl) (kb_all K9.out 6 rfl 62 _ rfl rfl Try.underlying62 rfl (size50)) ?_
          (try simp only [Act.put, List.getElem_toArray, List.getElem_cons_succ, List.getElem_cons_zero, List.setIfInBounds_toArray, List.set_cons_zero, List.set_cons_succ])
          refine wpList_val (.agg (poA ⟨0, 0, false, 0, pr, x.f4, true, true, x.f2, x.f3, r0, r1, m, (x.v.r : Nat), (x.v.c : Nat), (x.v.b : Nat), (x.v.p : Nat), x.k0, x.k1, x.k2, x.k3⟩)) (by rfl) (kb_all K9.out 4 rfl 62 _ rfl rfl Try.underlying62 rfl (size50)) ?_
          (try simp only [Act.put, List.getElem_toArray, List.getElem_cons_succ, List.getElem_cons_zero, List.setIfInBounds_toArray, List.set_cons_zero, List.set_cons_succ])
          refine wpList_val (.bool true) (by rfl) (by have q := eq_po2 HQ2.out; go_simp) ?_
          (try simp only [Act.put, List.getElem_toArray, List.getElem_cons_succ, List.getElem_cons_zero, List.setIfInBounds_toArray, List.set_cons_zero, List.set_cons_succ])
          refine wpList_val (.bool true) (by rfl) (run_pick_yes (.tmp 57) (.tmp 60) (.const (.bool false)) _ rfl rfl rfl) ?_
          (try simp only [Act.put, List.getElem_toArray, List.getElem_cons_succ, List.getElem_cons_zero, List.setIfInBounds_toArray, List.set_cons_zero, List.set_cons_succ])
          refine wpList_val (.bool true) (by rfl) (by go_simp) ?_
          (try simp only [Act.put, List.getElem_toArray, List.getElem_cons_succ, List.getElem_cons_zero, List.setIfInBounds_toArray, List.set_cons_zero, List.set_cons_succ])
          refine wpList_nil ?_
          go_wp2_with fail
          go_ret
          exact ⟨ret_bool (rfl), K9.out.below⟩
        case neg =>
          have hO : hearOld ⟨0, 0, false, 0, pr, x.f4, true, true, x.f2, x.f3, r0, r1, m, (x.v.r : Nat), (x.v.c : Nat), (x.v.b : Nat), (x.v.p : Nat), x.k0, x.k1, x.k2, x.k3⟩ n0 ⟨0, n1, h, 0, 0, 0⟩ = false := by simp [hearOld, onP, hag]; omega
          have HO := Lib.hid hO
          clear hO
          refine wp_region_lit ?_
          refine wpList_val (.pointer (some ⟨b6x, 7, none⟩)) (by rfl) (by go_simp) ?_
          (try simp only [Act.put, List.getElem_toArray, List.getElem_cons_succ, List.getElem_cons_zero, List.setIfInBounds_toArray, List.set_cons_zero, List.set_cons_succ])
          refine wpList_val (.bool true) (by rfl) (by have q : w9.cell? ⟨b6x, 7, none⟩ = some (.bool true) := K9.out.cell (i := 4) rfl (by rfl); go_simp) ?_
          (try simp only [Act.put, List.getElem_toArray, List.getElem_cons_succ, List.getElem_cons_zero, List.setIfInBounds_toArray, List.set_cons_zero, List.set_cons_succ])
          refine wpList_val (.bool true) (by rfl) (by go_simp) ?_
          (try simp only [Act.put, List.getElem_toArray, List.getElem_cons_succ, List.getElem_cons_zero, List.setIfInBounds_toArray, List.set_cons_zero, List.set_cons_succ])
          refine wpList_val (.pointer (some ⟨b6x, 6, none⟩)) (by rfl) (by go_simp) ?_
          (try simp only [Act.put, List.getElem_toArray, List.getElem_cons_succ, List.getElem_cons_zero, List.setIfInBounds_toArray, List.set_cons_zero, List.set_cons_succ])
          refine wpList_val (.bool true) (by rfl) (by have q : w9.cell? ⟨b6x, 6, none⟩ = some (.bool true) := K9.out.cell (i := 4) rfl (by rfl); go_simp) ?_
          (try simp only [Act.put, List.getElem_toArray, List.getElem_cons_succ, List.getElem_cons_zero, List.setIfInBounds_toArray, List.set_cons_zero, List.set_cons_succ])
          refine wpList_val (.bool true) (by rfl) (run_pick_yes (.tmp 40) (.tmp 42) (.const (.bool false)) _ rfl rfl rfl) ?_
          (try simp only [Act.put, List.getElem_toArray, List.getElem_cons_succ, List.getElem_cons_zero, List.setIfInBounds_toArray, List.set_cons_zero, List.set_cons_succ])
          refine wpList_val (.bool false) (by rfl) (by go_simp) ?_
          (try simp only [Act.put, List.getElem_toArray, List.getElem_cons_succ, List.getElem_cons_zero, List.setIfInBounds_toArray, List.set_cons_zero, List.set_cons_succ])
          refine wpList_val (.bool false) (by rfl) (by go_simp) ?_
          (try simp only [Act.put, List.getElem_toArray, List.getElem_cons_succ, List.getElem_cons_zero, List.setIfInBounds_toArray, List.set_cons_zero, List.set_cons_succ])
          refine wpList_val (.int .i64 n0) (by rfl) (by go_simp) ?_
          (try simp only [Act.put, List.getElem_toArray, List.getElem_cons_succ, List.getElem_cons_zero, List.setIfInBounds_toArray, List.set_cons_zero, List.set_cons_succ])
          refine wpList_val (.bool false) (by rfl) (by have q := hag; go_simp) ?_
          (try simp only [Act.put, List.getElem_toArray, List.getElem_cons_succ, List.getElem_cons_zero, List.setIfInBounds_toArray, List.set_cons_zero, List.set_cons_succ])
          refine wpList_val (.bool false) (by rfl) (run_pick_no (.tmp 45) (.const (.bool true)) (.tmp 47) _ rfl rfl rfl) ?_
          (try simp only [Act.put, List.getElem_toArray, List.getElem_cons_succ, List.getElem_cons_zero, List.setIfInBounds_toArray, List.set_cons_zero, List.set_cons_succ])
          refine wpList_val (.bool false) (by rfl) (by go_simp) ?_
          (try simp only [Act.put, List.getElem_toArray, List.getElem_cons_succ, List.getElem_cons_zero, List.setIfInBounds_toArray, List.set_cons_zero, List.set_cons_succ])
          refine wpList_val (.int .i64 n0) (by rfl) (by go_simp) ?_
          (try simp only [Act.put, List.getElem_toArray, List.getElem_cons_succ, List.getElem_cons_zero, List.setIfInBounds_toArray, List.set_cons_zero, List.set_cons_succ])
          refine wpList_val (.pointer (some ⟨b5x, 1, none⟩)) (by rfl) (by go_simp) ?_
          (try simp only [Act.put, List.getElem_toArray, List.getElem_cons_succ, List.getElem_cons_zero, List.setIfInBounds_toArray, List.set_cons_zero, List.set_cons_succ])
          refine wpList_val (.int .i64 n1) (by rfl) (by have q : w9.cell? ⟨b5x, 1, none⟩ = some (.int .i64 n1) := K9.out.cell (i := 3) rfl (by rfl); go_simp) ?_
          (try simp only [Act.put, List.getElem_toArray, List.getElem_cons_succ, List.getElem_cons_zero, List.setIfInBounds_toArray, List.set_cons_zero, List.set_cons_succ])
          refine wpList_val (.bool false) (by rfl) (by have q := hmx; go_simp) ?_
          (try simp only [Act.put, List.getElem_toArray, List.getElem_cons_succ, List.getElem_cons_zero, List.setIfInBounds_toArray, List.set_cons_zero, List.set_cons_succ])
          refine wpList_val (.bool false) (by rfl) (run_pick_no (.tmp 49) (.const (.bool true)) (.tmp 53) _ rfl rfl rfl) ?_
          (try simp only [Act.put, List.getElem_toArray, List.getElem_cons_succ, List.getElem_cons_zero, List.setIfInBounds_toArray, List.set_cons_zero, List.set_cons_succ])
          refine wpList_nil ?_
          clear hag hmx
          go_upto_region 8 with fail
          by_cases hi : m = 2
          case neg =>
            have HI := Lib.hid hi
            clear hi
            cases hl : lessV y x.v
            case false =>
              have HL := Lib.hid hl
              clear hl
              by_cases h0 : m = 0
              case pos =>
                have H0 := Lib.hid h0
                clear h0
                have ht : takesB ⟨0, 0, false, 0, pr, x.f4, true, true, x.f2, x.f3, r0, r1, m, (x.v.r : Nat), (x.v.c : Nat), (x.v.b : Nat), (x.v.p : Nat), x.k0, x.k1, x.k2, x.k3⟩ x.v y = true := by simp [takesB, anewB, HI.out, HL.out, H0.out]
                have hQ : Q = ⟨0, 0, false, 0, pr, x.f4, true, true, x.f2, x.f3, r0, r1, 2, (y.r : Nat), (y.c : Nat), (y.b : Nat), (y.p : Nat), n0, (IntKind.i64.wrap (3 * h)), x.k2, x.k3⟩ := by rw [HQ.out]; unfold hearP; rw [HO.out, ht]; rfl
                have hK : k = 3 := by rw [HK.out]; unfold hearN; rw [HO.out, ht]; simp [HI.out]
                have HQ2 := Lib.hid hQ
                have HK2 := Lib.hid hK
                clear hQ hK
                clear ht
                refine wp_region_lit ?_
                refine wpList_val (.pointer (some ⟨b6x, 12, none⟩)) (by rfl) (by go_simp) ?_
                (try simp only [Act.put, List.getElem_toArray, List.getElem_cons_succ, List.getElem_cons_zero, List.setIfInBounds_toArray, List.set_cons_zero, List.set_cons_succ])
                refine wpList_val (.int .i64 m) (by rfl) (by have q : w9.cell? ⟨b6x, 12, none⟩ = some (.int .i64 m) := K9.out.cell (i := 4) rfl (by rfl); go_simp) ?_
                (try simp only [Act.put, List.getElem_toArray, List.getElem_cons_succ, List.getElem_cons_zero, List.setIfInBounds_toArray, List.set_cons_zero, List.set_cons_succ])
                refine wpList_val (.bool false) (by rfl) (by have q := HI.out; go_simp) ?_
                (try simp only [Act.put, List.getElem_toArray, List.getElem_cons_succ, List.getElem_cons_zero, List.setIfInBounds_toArray, List.set_cons_zero, List.set_cons_succ])
                refine wpList_val (.bool false) (by rfl) (by go_simp) ?_
                (try simp only [Act.put, List.getElem_toArray, List.getElem_cons_succ, List.getElem_cons_zero, List.setIfInBounds_toArray, List.set_cons_zero, List.set_cons_succ])
                refine wpList_nil ?_
                go_upto_region 9 with fail
                refine wp_region_lit ?_
                refine wpList_val (.bool false) (by rfl) (by go_simp) ?_
                (try simp only [Act.put, List.getElem_toArray, List.getElem_cons_succ, List.getElem_cons_zero, List.setIfInBounds_toArray, List.set_cons_zero, List.set_cons_succ])
                refine wpList_val (.bool false) (by rfl) (by go_simp) ?_
                (try simp only [Act.put, List.getElem_toArray, List.getElem_cons_succ, List.getElem_cons_zero, List.setIfInBounds_toArray, List.set_cons_zero, List.set_cons_succ])
                refine wpList_skip (by kernel_rfl) ?_
                (try simp only [Act.put, List.getElem_toArray, List.getElem_cons_succ, List.getElem_cons_zero, List.setIfInBounds_toArray, List.set_cons_zero, List.set_cons_succ])
                refine wpList_skip (by kernel_rfl) ?_
                (try simp only [Act.put, List.getElem_toArray, List.getElem_cons_succ, List.getElem_cons_zero, List.setIfInBounds_toArray, List.set_cons_zero, List.set_cons_succ])
                refine wpList_skip (by kernel_rfl) ?_
                (try simp only [Act.put, List.getElem_toArray, List.getElem_cons_succ, List.getElem_cons_zero, List.setIfInBounds_toArray, List.set_cons_zero, List.set_cons_succ])
                refine wpList_skip (by kernel_rfl) ?_
                (try simp only [Act.put, List.getElem_toArray, List.getElem_cons_succ, List.getElem_cons_zero, List.setIfInBounds_toArray, List.set_cons_zero, List.set_cons_succ])
                refine wpList_skip (by kernel_rfl) ?_
                (try simp only [Act.put, List.getElem_toArray, List.getElem_cons_succ, List.getElem_cons_zero, List.setIfInBounds_toArray, List.set_cons_zero, List.set_cons_succ])
                refine wpList_skip (by kernel_rfl) ?_
                (try simp only [Act.put, List.getElem_toArray, List.getElem_cons_succ, List.getElem_cons_zero, List.setIfInBounds_toArray, List.set_cons_zero, List.set_cons_succ])
                refine wpList_val (.bool false) (by rfl) (run_pick_no (.tmp 66) (.tmp 72) (.const (.bool false)) _ rfl rfl rfl) ?_
                (try simp only [Act.put, List.getElem_toArray, List.getElem_cons_succ, List.getElem_cons_zero, List.setIfInBounds_toArray, List.set_cons_zero, List.set_cons_succ])
                refine wpList_val (.bool false) (by rfl) (by go_simp) ?_
                (try simp only [Act.put, List.getElem_toArray, List.getElem_cons_succ, List.getElem_cons_zero, List.setIfInBounds_toArray, List.set_cons_zero, List.set_cons_succ])
                refine wpList_skip (by kernel_rfl) ?_
                (try simp only [Act.put, List.getElem_toArray, List.getElem_cons_succ, List.getElem_cons_zero, List.setIfInBounds_toArray, List.set_cons_zero, List.set_cons_succ])
                refine wpList_skip (by kernel_rfl) ?_
                (try simp only [Act.put, List.getElem_toArray, List.getElem_cons_succ, List.getElem_cons_zero, List.setIfInBounds_toArray, List.set_cons_zero, List.set_cons_succ])
                refine wpList_skip (by kernel_rfl) ?_
                (try simp only [Act.put, List.getElem_toArray, List.getElem_cons_succ, List.getElem_cons_zero, List.setIfInBounds_toArray, List.set_cons_zero, List.set_cons_succ])
                refine wpList_skip (by kernel_rfl) ?_
                (try simp only [Act.put, List.getElem_toArray, List.getElem_cons_succ, List.getElem_cons_zero, List.setIfInBounds_toArray, List.set_cons_zero, List.set_cons_succ])
                refine wpList_skip (by kernel_rfl) ?_
                (try simp only [Act.put, List.getElem_toArray, List.getElem_cons_succ, List.getElem_cons_zero, List.setIfInBounds_toArray, List.set_cons_zero, List.set_cons_succ])
                refine wpList_skip (by kernel_rfl) ?_
                (try simp only [Act.put, List.getElem_toArray, List.getElem_cons_succ, List.getElem_cons_zero, List.setIfInBounds_toArray, List.set_cons_zero, List.set_cons_succ])
                refine wpList_val (.bool false) (by rfl) (run_pick_no (.tmp 74) (.tmp 80) (.const (.bool false)) _ rfl rfl rfl) ?_
                (try simp only [Act.put, List.getElem_toArray, List.getElem_cons_succ, List.getElem_cons_zero, List.setIfInBounds_toArray, List.set_cons_zero, List.set_cons_succ])
                refine wpList_val (.bool false) (by rfl) (by go_simp) ?_
                (try simp only [Act.put, List.getElem_toArray, List.getElem_cons_succ, List.getElem_cons_zero, List.setIfInBounds_toArray, List.set_cons_zero, List.set_cons_succ])
                refine wpList_nil ?_
                go_upto_region 10 with fail
                refine wp_region_lit ?_
                refine wpList_val (.bool false) (by rfl) (by go_simp) ?_
                (try simp only [Act.put, List.getElem_toArray, List.getElem_cons_succ, List.getElem_cons_zero, List.setIfInBounds_toArray, List.set_cons_zero, List.set_cons_succ])
                refine wpList_val (.bool true) (by rfl) (by go_simp) ?_
                (try simp only [Act.put, List.getElem_toArray, List.getElem_cons_succ, List.getElem_cons_zero, List.setIfInBounds_toArray, List.set_cons_zero, List.set_cons_succ])
                refine wpList_val (.bool true) (by rfl) (by go_simp) ?_
                (try simp only [Act.put, List.getElem_toArray, List.getElem_cons_succ, List.getElem_cons_zero, List.setIfInBounds_toArray, List.set_cons_zero, List.set_cons_succ])
                refine wpList_val (.agg (vcA y)) (by rfl) (kb_all K9.out 5 rfl 44 _ rfl rfl Try.underlying44 rfl (sizeV)) ?_
                (try simp only [Act.put, List.getElem_toArray, List.getElem_cons_succ, List.getElem_cons_zero, List.setIfInBounds_toArray, List.set_cons_zero, List.set_cons_succ])
                refine wpList_val (.pointer (some ⟨b6x, 13, none⟩)) (by rfl) (by go_simp) ?_
                (try simp only [Act.put, List.getElem_toArray, List.getElem_cons_succ, List.getElem_cons_zero, List.setIfInBounds_toArray, List.set_cons_zero, List.set_cons_succ])
                refine wpList_val (.agg (#[.int .u64 (x.v.r : Nat), .int .u32 (x.v.c : Nat), .int .u64 (x.v.b : Nat), .int .u16 (x.v.p : Nat)])) (by rfl) (kb_part K9.out 4 rfl 44 _ 13 (#[.int .u64 (x.v.r : Nat), .int .u32 (x.v.c : Nat), .int .u64 (x.v.b : Nat), .int .u16 (x.v.p : Nat)]).toList rfl rfl (part_of (by kernel_rfl)) Try.underlying44 rfl (sizeV)) ?_
                (try simp only [Act.put, List.getElem_toArray, List.getElem_cons_succ, List.getElem_cons_zero, List.setIfInBounds_toArray, List.set_cons_zero, List.set_cons_succ])
                refine kb_call K9.out 13 #[.agg (vcA y), .agg (#[.int .u64 (x.v.r : Nat), .int .u32 (x.v.c : Nat), .int .u64 (x.v.b : Nat), .int .u16 (x.v.p : Nat)])] (.bool false) (by rfl) (by go_simp) (by have q := better_any y x.v w9; rw [HL.out] at q; exact q) ?_
                intro w10 hk
                have K10 := Lib.hid (show Kb w [(b1, lpA x, 55), (b2, tvA y, 52), (b3, #[.int .i64 n0, .int .i64 n1, .int .i64 n2], 56), (b5x, cfA ⟨0, n1, h, 0, 0, 0⟩, 58), (b6x, poA ⟨0, 0, false, 0, pr, x.f4, true, true, x.f2, x.f3, r0, r1, m, (x.v.r : Nat), (x.v.c : Nat), (x.v.b : Nat), (x.v.p : Nat), x.k0, x.k1, x.k2, x.k3⟩, 62), (b6y, vcA y, 44), (b8, poA Q, 62)] w10 from hk)
                clear hk
                (try simp only [Act.put, List.getElem_toArray, List.getElem_cons_succ, List.getElem_cons_zero, List.setIfInBounds_toArray, List.set_cons_zero, List.set_cons_succ])
                refine wpList_val (.bool true) (by rfl) (by go_simp) ?_
                (try simp only [Act.put, List.getElem_toArray, List.getElem_cons_succ, List.getElem_cons_zero, List.setIfInBounds_toArray, List.set_cons_zero, List.set_cons_succ])
                refine wpList_val (.bool true) (by rfl) (run_pick_yes (.tmp 84) (.tmp 89) (.const (.bool false)) _ rfl rfl rfl) ?_
                (try simp only [Act.put, List.getElem_toArray, List.getElem_cons_succ, List.getElem_cons_zero, List.setIfInBounds_toArray, List.set_cons_zero, List.set_cons_succ])
                refine wpList_val (.bool true) (by rfl) (by go_simp) ?_
                (try simp only [Act.put, List.getElem_toArray, List.getElem_cons_succ, List.getElem_cons_zero, List.setIfInBounds_toArray, List.set_cons_zero, List.set_cons_succ])
                refine wpList_val (.pointer (some ⟨b6x, 12, none⟩)) (by rfl) (by go_simp) ?_
                (try simp only [Act.put, List.getElem_toArray, List.getElem_cons_succ, List.getElem_cons_zero, List.setIfInBounds_toArray, List.set_cons_zero, List.set_cons_succ])
                refine wpList_val (.int .i64 m) (by rfl) (by have q : w10.cell? ⟨b6x, 12, none⟩ = some (.int .i64 m) := K10.out.cell (i := 4) rfl (by rfl); go_simp) ?_
                (try simp only [Act.put, List.getElem_toArray, List.getElem_cons_succ, List.getElem_cons_zero, List.setIfInBounds_toArray, List.set_cons_zero, List.set_cons_succ])
                refine wpList_val (.bool false) (by rfl) (by have q := H0.out; go_simp) ?_
                (try simp only [Act.put, List.getElem_toArray, List.getElem_cons_succ, List.getElem_cons_zero, List.setIfInBounds_toArray, List.set_cons_zero, List.set_cons_succ])
                refine wpList_val (.bool false) (by rfl) (run_pick_yes (.tmp 91) (.tmp 94) (.const (.bool false)) _ rfl rfl rfl) ?_
                (try simp only [Act.put, List.getElem_toArray, List.getElem_cons_succ, List.getElem_cons_zero, List.setIfInBounds_toArray, List.set_cons_zero, List.set_cons_succ])
                refine wpList_nil ?_
                go_upto_region 12 with fail
                refine wp_region_lit ?_
                refine wpList_val (.int .i64 3) (by rfl) (by go_simp) ?_
                (try simp only [Act.put, List.getElem_toArray, List.getElem_cons_succ, List.getElem_cons_zero, List.setIfInBounds_toArray, List.set_cons_zero, List.set_cons_succ])
                refine wpList_nil ?_
                go_upto_region 13 with fail
                refine wp_region_lit ?_
                refine wpList_val (.bool false) (by rfl) (by go_simp) ?_
                (try simp only [Act.put, List.getElem_toArray, List.getElem_cons_succ, List.getElem_cons_zero, List.setIfInBounds_toArray, List.set_cons_zero, List.set_cons_succ])
                refine wpList_val (.bool false) (by rfl) (by go_simp) ?_
                (try simp only [Act.put, List.getElem_toArray, List.getElem_cons_succ, List.getElem_cons_zero, List.setIfInBounds_toArray, List.set_cons_zero, List.set_cons_succ])
                refine wpList_skip (by kernel_rfl) ?_
                (try simp only [Act.put, List.getElem_toArray, List.getElem_cons_succ, List.getElem_cons_zero, List.setIfInBounds_toArray, List.set_cons_zero, List.set_cons_succ])
                refine wpList_skip (by kernel_rfl) ?_
                (try simp only [Act.put, List.getElem_toArray, List.getElem_cons_succ, List.getElem_cons_zero, List.setIfInBounds_toArray, List.set_cons_zero, List.set_cons_succ])
                refine wpList_skip (by kernel_rfl) ?_
                (try simp only [Act.put, List.getElem_toArray, List.getElem_cons_succ, List.getElem_cons_zero, List.setIfInBounds_toArray, List.set_cons_zero, List.set_cons_succ])
                refine wpList_skip (by kernel_rfl) ?_
                (try simp only [Act.put, List.getElem_toArray, List.getElem_cons_succ, List.getElem_cons_zero, List.setIfInBounds_toArray, List.set_cons_zero, List.set_cons_succ])
                refine wpList_val (.bool false) (by rfl) (run_pick_no (.tmp 104) (.tmp 108) (.const (.bool false)) _ rfl rfl rfl) ?_
                (try simp only [Act.put, List.getElem_toArray, List.getElem_cons_succ, List.getElem_cons_zero, List.setIfInBounds_toArray, List.set_cons_zero, List.set_cons_succ])
                refine wpList_nil ?_
                go_upto_region 15 with fail
                refine wp_region_inv (I := fun L ac w' => ac = HrC1 x y n0 n1 n2 h m pr r0 r1 Q k b1 b2 b3 b5x b6x b6y b8 L ∧ Kb w [(b1, lpA x, 55), (b2, tvA y, 52), (b3, #[.int .i64 n0, .int .i64 n1, .int .i64 n2], 56), (b5x, cfA ⟨0, n1, h, 0, 0, 0⟩, 58), (b6x, poA ⟨0, 0, false, 0, pr, x.f4, true, true, x.f2, x.f3, r0, r1, (bif L 6 then 2 else m), (bif L 8 then (y.r : Nat) else (x.v.r : Nat)), (bif L 8 then (y.c : Nat) else (x.v.c : Nat)), (bif L 8 then (y.b : Nat) else (x.v.b : Nat)), (bif L 8 then (y.p : Nat) else (x.v.p : Nat)), (bif L 10 then n0 else x.k0), (bif L 12 then (IntKind.i64.wrap (3 * h)) else x.k1), x.k2, x.k3⟩, 62), (b6y, vcA y, 44), (b8, poA Q, 62)] w') (by kernel_rfl) (by kernel_rfl) ⟨by kernel_rfl, K10.out.drew⟩ ?_ ?_
                · intro i hi Lx ac w' hI hL haft
                  obtain ⟨rfl, hw⟩ := hI
                  match i, hi with
                  | 0, _ =>
                    have g10 : (HrC1 x y n0 n1 n2 h m pr r0 r1 Q k b1 b2 b3 b5x b6x b6y b8 Lx).tmps[10]?.getD undef = .pointer (some ⟨b6y, 0, none⟩) := by kernel_rfl
                    have e10 : (HrC1 x y n0 n1 n2 h m pr r0 r1 Q k b1 b2 b3 b5x b6x b6y b8 Lx).eval (.tmp 10) = .pointer (some ⟨b6y, 0, none⟩) := by kernel_rfl
                    exact i_val rfl (.agg (vcA y)) w' (by rfl) (kb_all hw 5 rfl 44 _ rfl e10 Try.underlying44 rfl (sizeV)) ⟨by kernel_rfl, hw⟩
                  | 1, _ =>
                    have g7 : (HrC1 x y n0 n1 n2 h m pr r0 r1 Q k b1 b2 b3 b5x b6x b6y b8 Lx).tmps[7]?.getD undef = .int .i64 n0 := by kernel_rfl
                    have e7 : (HrC1 x y n0 n1 n2 h m pr r0 r1 Q k b1 b2 b3 b5x b6x b6y b8 Lx).eval (.tmp 7) = .int .i64 n0 := by kernel_rfl
                    exact i_val rfl (.int .i64 n0) w' (by rfl) (by go_simp) ⟨by kernel_rfl, hw⟩
                  | 2, _ =>
                    have g8 : (HrC1 x y n0 n1 n2 h m pr r0 r1 Q k b1 b2 b3 b5x b6x b6y b8 Lx).tmps[8]?.getD undef = .pointer (some ⟨b5x, 0, none⟩) := by kernel_rfl
                    have e8 : (HrC1 x y n0 n1 n2 h m pr r0 r1 Q k b1 b2 b3 b5x b6x b6y b8 Lx).eval (.tmp 8) = .pointer (some ⟨b5x, 0, none⟩) := by kernel_rfl
                    exact i_val rfl (.pointer (some ⟨b5x, 2, none⟩)) w' (by rfl) (by go_simp) ⟨by kernel_rfl, hw⟩
                  | 3, _ =>
                    have h2 := haft 2 (by decide)
                    have e112 : (HrC1 x y n0 n1 n2 h m pr r0 r1 Q k b1 b2 b3 b5x b6x b6y b8 Lx).eval (.tmp 112) = .pointer (some ⟨b5x, 2, none⟩) := by show (bif Lx 2 then _ else _) = _; rw [h2]; rfl
                    have g112 : (HrC1 x y n0 n1 n2 h m pr r0 r1 Q k b1 b2 b3 b5x b6x b6y b8 Lx).tmps[112]?.getD undef = .pointer (some ⟨b5x, 2, none⟩) := by show (bif Lx 2 then _ else _) = _; rw [h2]; rfl
                    exact i_val rfl (.int .i64 h) w' (by rfl) (by have q : w'.cell? ⟨b5x, 2, none⟩ = some (.int .i64 h) := Kb.cell (i := 3) hw rfl (by rfl); go_simp) ⟨by kernel_rfl, hw⟩
                  | 4, _ =>
                    have h3 := haft 3 (by decide)
                    have e113 : (HrC1 x y n0 n1 n2 h m pr r0 r1 Q k b1 b2 b3 b5x b6x b6y b8 Lx).eval (.tmp 113) = .int .i64 h := by show (bif Lx 3 then _ else _) = _; rw [h3]; rfl
                    have g113 : (HrC1 x y n0 n1 n2 h m pr r0 r1 Q k b1 b2 b3 b5x b6x b6y b8 Lx).tmps[113]?.getD undef = .int .i64 h := by show (bif Lx 3 then _ else _) = _; rw [h3]; rfl
                    exact i_val rfl (.int .i64 (IntKind.i64.wrap (3 * h))) w' (by rfl) (by go_simp) ⟨by kernel_rfl, hw⟩
                  | 5, _ =>
                    have g9 : (HrC1 x y n0 n1 n2 h m pr r0 r1 Q k b1 b2 b3 b5x b6x b6y b8 Lx).tmps[9]?.getD undef = .pointer (some ⟨b6x, 0, none⟩) := by kernel_rfl
                    have e9 : (HrC1 x y n0 n1 n2 h m pr r0 r1 Q k b1 b2 b3 b5x b6x b6y b8 Lx).eval (.tmp 9) = .pointer (some ⟨b6x, 0, none⟩) := by kernel_rfl
                    exact i_val rfl (.pointer (some ⟨b6x, 12, none⟩)) w' (by rfl) (by go_simp) ⟨by kernel_rfl, hw⟩
                  | 6, _ =>
                    have h5 := haft 5 (by decide)
                    have e115 : (HrC1 x y n0 n1 n2 h m pr r0 r1 Q k b1 b2 b3 b5x b6x b6y b8 Lx).eval (.tmp 115) = .pointer (some ⟨b6x, 12, none⟩) := by show (bif Lx 5 then _ else _) = _; rw [h5]; rfl
                    have g115 : (HrC1 x y n0 n1 n2 h m pr r0 r1 Q k b1 b2 b3 b5x b6x b6y b8 Lx).tmps[115]?.getD undef = .pointer (some ⟨b6x, 12, none⟩) := by show (bif Lx 5 then _ else _) = _; rw [h5]; rfl
                    exact i_wp rfl (by rfl) (wp_store_cell 3 _ _ rfl ⟨b6x, 12, none⟩ (.int .i64 2) e115 rfl (kb_run_set hw (i := 4) rfl 3 12 (.int .i64 (bif Lx 6 then 2 else m)) (.int .i64 2) (by rfl) (fun W h1 h2 => by go_simp)) ⟨by kernel_rfl, cast_blk (Kb.set (i := 4) hw rfl 12 (.int .i64 2)) (by rfl)⟩)
                  | 7, _ =>
                    have g9 : (HrC1 x y n0 n1 n2 h m pr r0 r1 Q k b1 b2 b3 b5x b6x b6y b8 Lx).tmps[9]?.getD undef = .pointer (some ⟨b6x, 0, none⟩) := by kernel_rfl
                    have e9 : (HrC1 x y n0 n1 n2 h m pr r0 r1 Q k b1 b2 b3 b5x b6x b6y b8 Lx).eval (.tmp 9) = .pointer (some ⟨b6x, 0, none⟩) := by kernel_rfl
                    exact i_val rfl (.pointer (some ⟨b6x, 13, none⟩)) w' (by rfl) (by go_simp) ⟨by kernel_rfl, hw⟩
                  | 8, _ =>
                    have h0 := haft 0 (by decide)
                    have e110 : (HrC1 x y n0 n1 n2 h m pr r0 r1 Q k b1 b2 b3 b5x b6x b6y b8 Lx).eval (.tmp 110) = .agg (vcA y) := by show (bif Lx 0 then _ else _) = _; rw [h0]; rfl
                    have g110 : (HrC1 x y n0 n1 n2 h m pr r0 r1 Q k b1 b2 b3 b5x b6x b6y b8 Lx).tmps[110]?.getD undef = .agg (vcA y) := by show (bif Lx 0 then _ else _) = _; rw [h0]; rfl
                    have h7 := haft 7 (by decide)
                    have e116 : (HrC1 x y n0 n1 n2 h m pr r0 r1 Q k b1 b2 b3 b5x b6x b6y b8 Lx).eval (.tmp 116) = .pointer (some ⟨b6x, 13, none⟩) := by show (bif Lx 7 then _ else _) = _; rw [h7]; rfl
                    have g116 : (HrC1 x y n0 n1 n2 h m pr r0 r1 Q k b1 b2 b3 b5x b6x b6y b8 Lx).tmps[116]?.getD undef = .pointer (some ⟨b6x, 13, none⟩) := by show (bif Lx 7 then _ else _) = _; rw [h7]; rfl
                    exact i_wp rfl (by rfl) (wp_store_mid 44 _ _ rfl b6x 13 (vcA y) e116 e110 ((Kb.at (i := 4) hw rfl).thereN 13 4 (Nat.le_of_ble_eq_true (by kernel_rfl))) (sizeV) (by kernel_rfl) ⟨by kernel_rfl, cast_blk (Kb.mid (i := 4) hw rfl 13 (vcA y).toList) (by rfl)⟩)
                  | 9, _ =>
                    have g9 : (HrC1 x y n0 n1 n2 h m pr r0 r1 Q k b1 b2 b3 b5x b6x b6y b8 Lx).tmps[9]?.getD undef = .pointer (some ⟨b6x, 0, none⟩) := by kernel_rfl
                    have e9 : (HrC1 x y n0 n1 n2 h m pr r0 r1 Q k b1 b2 b3 b5x b6x b6y b8 Lx).eval (.tmp 9) = .pointer (some ⟨b6x, 0, none⟩) := by kernel_rfl
                    exact i_val rfl (.pointer (some ⟨b6x, 17, none⟩)) w' (by rfl) (by go_simp) ⟨by kernel_rfl, hw⟩
                  | 10, _ =>
                    have h1 := haft 1 (by decide)
                    have e111 : (HrC1 x y n0 n1 n2 h m pr r0 r1 Q k b1 b2 b3 b5x b6x b6y b8 Lx).eval (.tmp 111) = .int .i64 n0 := by show (bif Lx 1 then _ else _) = _; rw [h1]; rfl
                    have g111 : (HrC1 x y n0 n1 n2 h m pr r0 r1 Q k b1 b2 b3 b5x b6x b6y b8 Lx).tmps[111]?.getD undef = .int .i64 n0 := by show (bif Lx 1 then _ else _) = _; rw [h1]; rfl
                    have h9 := haft 9 (by decide)
                    have e117 : (HrC1 x y n0 n1 n2 h m pr r0 r1 Q k b1 b2 b3 b5x b6x b6y b8 Lx).eval (.tmp 117) = .pointer (some ⟨b6x, 17, none⟩) := by show (bif Lx 9 then _ else _) = _; rw [h9]; rfl
                    have g117 : (HrC1 x y n0 n1 n2 h m pr r0 r1 Q k b1 b2 b3 b5x b6x b6y b8 Lx).tmps[117]?.getD undef = .pointer (some ⟨b6x, 17, none⟩) := by show (bif Lx 9 then _ else _) = _; rw [h9]; rfl
                    exact i_wp rfl (by rfl) (wp_store_cell 3 _ _ rfl ⟨b6x, 17, none⟩ (.int .i64 n0) e117 e111 (kb_run_set hw (i := 4) rfl 3 17 (.int .i64 (bif Lx 10 then n0 else x.k0)) (.int .i64 n0) (by rfl) (fun W h1 h2 => by go_simp)) ⟨by kernel_rfl, cast_blk (Kb.set (i := 4) hw rfl 17 (.int .i64 n0)) (by rfl)⟩)
                  | 11, _ =>
                    have g9 : (HrC1 x y n0 n1 n2 h m pr r0 r1 Q k b1 b2 b3 b5x b6x b6y b8 Lx).tmps[9]?.getD undef = .pointer (some ⟨b6x, 0, none⟩) := by kernel_rfl
                    have e9 : (HrC1 x y n0 n1 n2 h m pr r0 r1 Q k b1 b2 b3 b5x b6x b6y b8 Lx).eval (.tmp 9) = .pointer (some ⟨b6x, 0, none⟩) := by kernel_rfl
                    exact i_val rfl (.pointer (some ⟨b6x, 18, none⟩)) w' (by rfl) (by go_simp) ⟨by kernel_rfl, hw⟩
                  | 12, _ =>
                    have h4 := haft 4 (by decide)
                    have e114 : (HrC1 x y n0 n1 n2 h m pr r0 r1 Q k b1 b2 b3 b5x b6x b6y b8 Lx).eval (.tmp 114) = .int .i64 (IntKind.i64.wrap (3 * h)) := by show (bif Lx 4 then _ else _) = _; rw [h4]; rfl
                    have g114 : (HrC1 x y n0 n1 n2 h m pr r0 r1 Q k b1 b2 b3 b5x b6x b6y b8 Lx).tmps[114]?.getD undef = .int .i64 (IntKind.i64.wrap (3 * h)) := by show (bif Lx 4 then _ else _) = _; rw [h4]; rfl
                    have h11 := haft 11 (by decide)
                    have e118 : (HrC1 x y n0 n1 n2 h m pr r0 r1 Q k b1 b2 b3 b5x b6x b6y b8 Lx).eval (.tmp 118) = .pointer (some ⟨b6x, 18, none⟩) := by show (bif Lx 11 then _ else _) = _; rw [h11]; rfl
                    have g118 : (HrC1 x y n0 n1 n2 h m pr r0 r1 Q k b1 b2 b3 b5x b6x b6y b8 Lx).tmps[118]?.getD undef = .pointer (some ⟨b6x, 18, none⟩) := by show (bif Lx 11 then _ else _) = _; rw [h11]; rfl
                    exact i_wp rfl (by rfl) (wp_store_cell 3 _ _ rfl ⟨b6x, 18, none⟩ (.int .i64 (IntKind.i64.wrap (3 * h))) e118 e114 (kb_run_set hw (i := 4) rfl 3 18 (.int .i64 (bif Lx 12 then (IntKind.i64.wrap (3 * h)) else x.k1)) (.int .i64 (IntKind.i64.wrap (3 * h))) (by rfl) (fun W h1 h2 => by go_simp)) ⟨by kernel_rfl, cast_blk (Kb.set (i := 4) hw rfl 18 (.int .i64 (IntKind.i64.wrap (3 * h)))) (by rfl)⟩)
                  | k + 13, h =>
                    exfalso
                    have h2 : k + 13 < 13 := h
                    omega
                intro Lx ac w11 hI hall
                obtain ⟨rfl, hw⟩ := hI
                have hfr : HrC1 x y n0 n1 n2 h m pr r0 r1 Q k b1 b2 b3 b5x b6x b6y b8 Lx = { tmps := #[.agg (lpA x), .agg (tvA y), .agg (#[.int .i64 n0, .int .i64 n1, .int .i64 n2]), .pointer (some ⟨b1, 0, none⟩), .pointer (some ⟨b2, 0, none⟩), .pointer (some ⟨b3, 0, none⟩), .bool false, .int .i64 n0, .pointer (some ⟨b5x, 0, none⟩), .pointer (some ⟨b6x, 0, none⟩), .pointer (some ⟨b6y, 0, none⟩), .pointer (some ⟨b8, 0, none⟩), .int .i64 k, .bool false, .bool false, .int .i64 3, .bool true, .bool false, .pointer (some ⟨b3, 0, none⟩), .int .i64 n0, .pointer (some ⟨b3, 1, none⟩), .int .i64 n1, .pointer (some ⟨b3, 2, none⟩), .int .i64 n2, .int .i64 h, .agg (cfA ⟨0, n1, h, 0, 0, 0⟩), .agg (lpA x), .agg (poA ⟨0, 0, false, 0, pr, x.f4, true, true, x.f2, x.f3, r0, r1, m, (x.v.r : Nat), (x.v.c : Nat), (x.v.b : Nat), (x.v.p : Nat), x.k0, x.k1, x.k2, x.k3⟩), .agg (tvA y), .agg (vcA y), .tuple #[.agg (poA Q), .int .i64 k], .agg (poA ⟨0, 0, false, 0, pr, x.f4, true, true, x.f2, x.f3, r0, r1, m, (x.v.r : Nat), (x.v.c : Nat), (x.v.b : Nat), (x.v.p : Nat), x.k0, x.k1, x.k2, x.k3⟩), .agg (vcA y), .int .i64 n0, .agg (cfA ⟨0, n1, h, 0, 0, 0⟩), .tuple #[.agg (poA Q), .int .i64 k], .agg (poA Q), .int .i64 k, .pointer (some ⟨b6x, 7, none⟩), .bool true, .bool true, .pointer (some ⟨b6x, 6, none⟩), .bool true, .bool true, .bool false, .bool false, .int .i64 n0, .bool false, .bool false, .bool false, .int .i64 n0, .pointer (some ⟨b5x, 1, none⟩), .int .i64 n1, .bool false, .bool false, undef, undef, undef, undef, undef, undef, undef, .pointer (some ⟨b6x, 12, none⟩), .int .i64 m, .bool false, .bool false, .bool false, undef, undef, undef, undef, undef, undef, .bool false, .bool false, undef, undef, undef, undef, undef, undef, .bool false, .bool false, .bool true, .bool true, .agg (vcA y), .pointer (some ⟨b6x, 13, none⟩), .agg (#[.int .u64 (x.v.r : Nat), .int .u32 (x.v.c : Nat), .int .u64 (x.v.b : Nat), .int .u16 (x.v.p : Nat)]), .bool false, .bool true, .bool true, .bool true, .pointer (some ⟨b6x, 12, none⟩), .int .i64 m, .bool false, .bool false, undef, undef, undef, undef, undef, undef, undef, .bool false, .bool false, undef, undef, undef, undef, .bool false, .agg (vcA y), .int .i64 n0, .pointer (some ⟨b5x, 2, none⟩), .int .i64 h, .int .i64 (IntKind.i64.wrap (3 * h)), .pointer (some ⟨b6x, 12, none⟩), .pointer (some ⟨b6x, 13, none⟩), .pointer (some ⟨b6x, 17, none⟩), .pointer (some ⟨b6x, 18, none⟩), undef, undef, undef, undef, undef, undef, undef, undef], defers := [] } := by unfold HrC1; simp only [hall 0 (by decide), hall 1 (by decide), hall 2 (by decide), hall 3 (by decide), hall 4 (by decide), hall 5 (by decide), hall 7 (by decide), hall 9 (by decide), hall 11 (by decide), cond_true]
                rw [hfr]
                clear hfr
                have hL6 := hall 6 (by decide)
                have hL8 := hall 8 (by decide)
                have hL10 := hall 10 (by decide)
                have hL12 := hall 12 (by decide)
                simp only [hL6, hL8, hL10, hL12, cond_true] at hw
                have K11 := Lib.hid (show Kb w [(b1, lpA x, 55), (b2, tvA y, 52), (b3, #[.int .i64 n0, .int .i64 n1, .int .i64 n2], 56), (b5x, cfA ⟨0, n1, h, 0, 0, 0⟩, 58), (b6x, poA ⟨0, 0, false, 0, pr, x.f4, true, true, x.f2, x.f3, r0, r1, 2, (y.r : Nat), (y.c : Nat), (y.b : Nat), (y.p : Nat), n0, (IntKind.i64.wrap (3 * h)), x.k2, x.k3⟩, 62), (b6y, vcA y, 44), (b8, poA Q, 62)] w11 from hw)
                clear hw hall hL6 hL8 hL10 hL12
                go_upto_region 16 with fail
                refine wp_region_lit ?_
                refine wpList_val (.int .i64 k) (by rfl) (by go_simp) ?_
                (try simp only [Act.put, List.getElem_toArray, List.getElem_cons_succ, List.getElem_cons_zero, List.setIfInBounds_toArray, List.set_cons_zero, List.set_cons_succ])
                refine wpList_val (.int .i64 3) (by rfl) (by go_simp) ?_
                (try simp only [Act.put, List.getElem_toArray, List.getElem_cons_succ, List.getElem_cons_zero, List.setIfInBounds_toArray, List.set_cons_zero, List.set_cons_succ])
                refine wpList_val (.bool true) (by rfl) (by have q := HK2.out; go_simp) ?_
                (try simp only [Act.put, List.getElem_toArray, List.getElem_cons_succ, List.getElem_cons_zero, List.setIfInBounds_toArray, List.set_cons_zero, List.set_cons_succ])
                refine wpList_val (.bool true) (by rfl) (by go_simp) ?_
                (try simp only [Act.put, List.getElem_toArray, List.getElem_cons_succ, List.getElem_cons_zero, List.setIfInBounds_toArray, List.set_cons_zero, List.set_cons_succ])
                refine wpList_val (.agg (poA Q)) (by rfl) (kb_all K11.out 6 rfl 62 _ rfl rfl Try.underlying62 rfl (size50)) ?_
                (try simp only [Act.put, List.getElem_toArray, List.getElem_cons_succ, List.getElem_cons_zero, List.setIfInBounds_toArray, List.set_cons_zero, List.set_cons_succ])
                refine wpList_val (.agg (poA ⟨0, 0, false, 0, pr, x.f4, true, true, x.f2, x.f3, r0, r1, 2, (y.r : Nat), (y.c : Nat), (y.b : Nat), (y.p : Nat), n0, (IntKind.i64.wrap (3 * h)), x.k2, x.k3⟩)) (by rfl) (kb_all K11.out 4 rfl 62 _ rfl rfl Try.underlying62 rfl (size50)) ?_
                (try simp only [Act.put, List.getElem_toArray, List.getElem_cons_succ, List.getElem_cons_zero, List.setIfInBounds_toArray, List.set_cons_zero, List.set_cons_succ])
                refine wpList_val (.bool true) (by rfl) (by have q := eq_po2 HQ2.out; go_simp) ?_
                (try simp only [Act.put, List.getElem_toArray, List.getElem_cons_succ, List.getElem_cons_zero, List.setIfInBounds_toArray, List.set_cons_zero, List.set_cons_succ])
                refine wpList_val (.bool true) (by rfl) (run_pick_yes (.tmp 122) (.tmp 125) (.const (.bool false)) _ rfl rfl rfl) ?_
                (try simp only [Act.put, List.getElem_toArray, List.getElem_cons_succ, List.getElem_cons_zero, List.setIfInBounds_toArray, List.set_cons_zero, List.set_cons_succ])
                refine wpList_val (.bool true) (by rfl) (by go_simp) ?_
                (try simp only [Act.put, List.getElem_toArray, List.getElem_cons_succ, List.getElem_cons_zero, List.setIfInBounds_toArray, List.set_cons_zero, List.set_cons_succ])
                refine wpList_nil ?_
                go_wp2_with fail
                go_ret
                exact ⟨ret_bool (rfl), K11.out.below⟩
              case neg =>
                have H0 := Lib.hid h0
                clear h0
                have ht : takesB ⟨0, 0, false, 0, pr, x.f4, true, true, x.f2, x.f3, r0, r1, m, (x.v.r : Nat), (x.v.c : Nat), (x.v.b : Nat), (x.v.p : Nat), x.k0, x.k1, x.k2, x.k3⟩ x.v y = false := by simp [takesB, anewB, HI.out, HL.out, H0.out]
                have hQ : Q = ⟨0, 0, false, 0, pr, x.f4, true, true, x.f2, x.f3, r0, r1, m, (x.v.r : Nat), (x.v.c : Nat), (x.v.b : Nat), (x.v.p : Nat), x.k0, x.k1, x.k2, x.k3⟩ := by rw [HQ.out]; unfold hearP; rw [HO.out, ht]; rfl
                have hK : k = 1 := by rw [HK.out]; unfold hearN; rw [HO.out, ht]; rfl
                have HQ2 := Lib.hid hQ
                have HK2 := Lib.hid hK
                clear hQ hK
                clear ht
                refine wp_region_lit ?_
                refine wpList_val (.pointer (some ⟨b6x, 12, none⟩)) (by rfl) (by go_simp) ?_
                (try simp only [Act.put, List.getElem_toArray, List.getElem_cons_succ, List.getElem_cons_zero, List.setIfInBounds_toArray, List.set_cons_zero, List.set_cons_succ])
                refine wpList_val (.int .i64 m) (by rfl) (by have q : w9.cell? ⟨b6x, 12, none⟩ = some (.int .i64 m) := K9.out.cell (i := 4) rfl (by rfl); go_simp) ?_
                (try simp only [Act.put, List.getElem_toArray, List.getElem_cons_succ, List.getElem_cons_zero, List.setIfInBounds_toArray, List.set_cons_zero, List.set_cons_succ])
                refine wpList_val (.bool false) (by rfl) (by have q := HI.out; go_simp) ?_
                (try simp only [Act.put, List.getElem_toArray, List.getElem_cons_succ, List.getElem_cons_zero, List.setIfInBounds_toArray, List.set_cons_zero, List.set_cons_succ])
                refine wpList_val (.bool false) (by rfl) (by go_simp) ?_
                (try simp only [Act.put, List.getElem_toArray, List.getElem_cons_succ, List.getElem_cons_zero, List.setIfInBounds_toArray, List.set_cons_zero, List.set_cons_succ])
                refine wpList_nil ?_
                go_upto_region 9 with fail
                refine wp_region_lit ?_
                refine wpList_val (.bool false) (by rfl) (by go_simp) ?_
                (try simp only [Act.put, List.getElem_toArray, List.getElem_cons_succ, List.getElem_cons_zero, List.setIfInBounds_toArray, List.set_cons_zero, List.set_cons_succ])
                refine wpList_val (.bool false) (by rfl) (by go_simp) ?_
                (try simp only [Act.put, List.getElem_toArray, List.getElem_cons_succ, List.getElem_cons_zero, List.setIfInBounds_toArray, List.set_cons_zero, List.set_cons_succ])
                refine wpList_skip (by kernel_rfl) ?_
                (try simp only [Act.put, List.getElem_toArray, List.getElem_cons_succ, List.getElem_cons_zero, List.setIfInBounds_toArray, List.set_cons_zero, List.set_cons_succ])
                refine wpList_skip (by kernel_rfl) ?_
                (try simp only [Act.put, List.getElem_toArray, List.getElem_cons_succ, List.getElem_cons_zero, List.setIfInBounds_toArray, List.set_cons_zero, List.set_cons_succ])
                refine wpList_skip (by kernel_rfl) ?_
                (try simp only [Act.put, List.getElem_toArray, List.getElem_cons_succ, List.getElem_cons_zero, List.setIfInBounds_toArray, List.set_cons_zero, List.set_cons_succ])
                refine wpList_skip (by kernel_rfl) ?_
                (try simp only [Act.put, List.getElem_toArray, List.getElem_cons_succ, List.getElem_cons_zero, List.setIfInBounds_toArray, List.set_cons_zero, List.set_cons_succ])
                refine wpList_skip (by kernel_rfl) ?_
                (try simp only [Act.put, List.getElem_toArray, List.getElem_cons_succ, List.getElem_cons_zero, List.setIfInBounds_toArray, List.set_cons_zero, List.set_cons_succ])
                refine wpList_skip (by kernel_rfl) ?_
                (try simp only [Act.put, List.getElem_toArray, List.getElem_cons_succ, List.getElem_cons_zero, List.setIfInBounds_toArray, List.set_cons_zero, List.set_cons_succ])
                refine wpList_val (.bool false) (by rfl) (run_pick_no (.tmp 66) (.tmp 72) (.const (.bool false)) _ rfl rfl rfl) ?_
                (try simp only [Act.put, List.getElem_toArray, List.getElem_cons_succ, List.getElem_cons_zero, List.setIfInBounds_toArray, List.set_cons_zero, List.set_cons_succ])
                refine wpList_val (.bool false) (by rfl) (by go_simp) ?_
                (try simp only [Act.put, List.getElem_toArray, List.getElem_cons_succ, List.getElem_cons_zero, List.setIfInBounds_toArray, List.set_cons_zero, List.set_cons_succ])
                refine wpList_skip (by kernel_rfl) ?_
                (try simp only [Act.put, List.getElem_toArray, List.getElem_cons_succ, List.getElem_cons_zero, List.setIfInBounds_toArray, List.set_cons_zero, List.set_cons_succ])
                refine wpList_skip (by kernel_rfl) ?_
                (try simp only [Act.put, List.getElem_toArray, List.getElem_cons_succ, List.getElem_cons_zero, List.setIfInBounds_toArray, List.set_cons_zero, List.set_cons_succ])
                refine wpList_skip (by kernel_rfl) ?_
                (try simp only [Act.put, List.getElem_toArray, List.getElem_cons_succ, List.getElem_cons_zero, List.setIfInBounds_toArray, List.set_cons_zero, List.set_cons_succ])
                refine wpList_skip (by kernel_rfl) ?_
                (try simp only [Act.put, List.getElem_toArray, List.getElem_cons_succ, List.getElem_cons_zero, List.setIfInBounds_toArray, List.set_cons_zero, List.set_cons_succ])
                refine wpList_skip (by kernel_rfl) ?_
                (try simp only [Act.put, List.getElem_toArray, List.getElem_cons_succ, List.getElem_cons_zero, List.setIfInBounds_toArray, List.set_cons_zero, List.set_cons_succ])
                refine wpList_skip (by kernel_rfl) ?_
                (try simp only [Act.put, List.getElem_toArray, List.getElem_cons_succ, List.getElem_cons_zero, List.setIfInBounds_toArray, List.set_cons_zero, List.set_cons_succ])
                refine wpList_val (.bool false) (by rfl) (run_pick_no (.tmp 74) (.tmp 80) (.const (.bool false)) _ rfl rfl rfl) ?_
                (try simp only [Act.put, List.getElem_toArray, List.getElem_cons_succ, List.getElem_cons_zero, List.setIfInBounds_toArray, List.set_cons_zero, List.set_cons_succ])
                refine wpList_val (.bool false) (by rfl) (by go_simp) ?_
                (try simp only [Act.put, List.getElem_toArray, List.getElem_cons_succ, List.getElem_cons_zero, List.setIfInBounds_toArray, List.set_cons_zero, List.set_cons_succ])
                refine wpList_nil ?_
                go_upto_region 10 with fail
                refine wp_region_lit ?_
                refine wpList_val (.bool false) (by rfl) (by go_simp) ?_
                (try simp only [Act.put, List.getElem_toArray, List.getElem_cons_succ, List.getElem_cons_zero, List.setIfInBounds_toArray, List.set_cons_zero, List.set_cons_succ])
                refine wpList_val (.bool true) (by rfl) (by go_simp) ?_
                (try simp only [Act.put, List.getElem_toArray, List.getElem_cons_succ, List.getElem_cons_zero, List.setIfInBounds_toArray, List.set_cons_zero, List.set_cons_succ])
                refine wpList_val (.bool true) (by rfl) (by go_simp) ?_
                (try simp only [Act.put, List.getElem_toArray, List.getElem_cons_succ, List.getElem_cons_zero, List.setIfInBounds_toArray, List.set_cons_zero, List.set_cons_succ])
                refine wpList_val (.agg (vcA y)) (by rfl) (kb_all K9.out 5 rfl 44 _ rfl rfl Try.underlying44 rfl (sizeV)) ?_
                (try simp only [Act.put, List.getElem_toArray, List.getElem_cons_succ, List.getElem_cons_zero, List.setIfInBounds_toArray, List.set_cons_zero, List.set_cons_succ])
                refine wpList_val (.pointer (some ⟨b6x, 13, none⟩)) (by rfl) (by go_simp) ?_
                (try simp only [Act.put, List.getElem_toArray, List.getElem_cons_succ, List.getElem_cons_zero, List.setIfInBounds_toArray, List.set_cons_zero, List.set_cons_succ])
                refine wpList_val (.agg (#[.int .u64 (x.v.r : Nat), .int .u32 (x.v.c : Nat), .int .u64 (x.v.b : Nat), .int .u16 (x.v.p : Nat)])) (by rfl) (kb_part K9.out 4 rfl 44 _ 13 (#[.int .u64 (x.v.r : Nat), .int .u32 (x.v.c : Nat), .int .u64 (x.v.b : Nat), .int .u16 (x.v.p : Nat)]).toList rfl rfl (part_of (by kernel_rfl)) Try.underlying44 rfl (sizeV)) ?_
                (try simp only [Act.put, List.getElem_toArray, List.getElem_cons_succ, List.getElem_cons_zero, List.setIfInBounds_toArray, List.set_cons_zero, List.set_cons_succ])
                refine kb_call K9.out 13 #[.agg (vcA y), .agg (#[.int .u64 (x.v.r : Nat), .int .u32 (x.v.c : Nat), .int .u64 (x.v.b : Nat), .int .u16 (x.v.p : Nat)])] (.bool false) (by rfl) (by go_simp) (by have q := better_any y x.v w9; rw [HL.out] at q; exact q) ?_
                intro w10 hk
                have K10 := Lib.hid (show Kb w [(b1, lpA x, 55), (b2, tvA y, 52), (b3, #[.int .i64 n0, .int .i64 n1, .int .i64 n2], 56), (b5x, cfA ⟨0, n1, h, 0, 0, 0⟩, 58), (b6x, poA ⟨0, 0, false, 0, pr, x.f4, true, true, x.f2, x.f3, r0, r1, m, (x.v.r : Nat), (x.v.c : Nat), (x.v.b : Nat), (x.v.p : Nat), x.k0, x.k1, x.k2, x.k3⟩, 62), (b6y, vcA y, 44), (b8, poA Q, 62)] w10 from hk)
                clear hk
                (try simp only [Act.put, List.getElem_toArray, List.getElem_cons_succ, List.getElem_cons_zero, List.setIfInBounds_toArray, List.set_cons_zero, List.set_cons_succ])
                refine wpList_val (.bool true) (by rfl) (by go_simp) ?_
                (try simp only [Act.put, List.getElem_toArray, List.getElem_cons_succ, List.getElem_cons_zero, List.setIfInBounds_toArray, List.set_cons_zero, List.set_cons_succ])
                refine wpList_val (.bool true) (by rfl) (run_pick_yes (.tmp 84) (.tmp 89) (.const (.bool false)) _ rfl rfl rfl) ?_
                (try simp only [Act.put, List.getElem_toArray, List.getElem_cons_succ, List.getElem_cons_zero, List.setIfInBounds_toArray, List.set_cons_zero, List.set_cons_succ])
                refine wpList_val (.bool true) (by rfl) (by go_simp) ?_
                (try simp only [Act.put, List.getElem_toArray, List.getElem_cons_succ, List.getElem_cons_zero, List.setIfInBounds_toArray, List.set_cons_zero, List.set_cons_succ])
                refine wpList_val (.pointer (some ⟨b6x, 12, none⟩)) (by rfl) (by go_simp) ?_
                (try simp only [Act.put, List.getElem_toArray, List.getElem_cons_succ, List.getElem_cons_zero, List.setIfInBounds_toArray, List.set_cons_zero, List.set_cons_succ])
                refine wpList_val (.int .i64 m) (by rfl) (by have q : w10.cell? ⟨b6x, 12, none⟩ = some (.int .i64 m) := K10.out.cell (i := 4) rfl (by rfl); go_simp) ?_
                (try simp only [Act.put, List.getElem_toArray, List.getElem_cons_succ, List.getElem_cons_zero, List.setIfInBounds_toArray, List.set_cons_zero, List.set_cons_succ])
                refine wpList_val (.bool true) (by rfl) (by have q := H0.out; go_simp) ?_
                (try simp only [Act.put, List.getElem_toArray, List.getElem_cons_succ, List.getElem_cons_zero, List.setIfInBounds_toArray, List.set_cons_zero, List.set_cons_succ])
                refine wpList_val (.bool true) (by rfl) (run_pick_yes (.tmp 91) (.tmp 94) (.const (.bool false)) _ rfl rfl rfl) ?_
                (try simp only [Act.put, List.getElem_toArray, List.getElem_cons_succ, List.getElem_cons_zero, List.setIfInBounds_toArray, List.set_cons_zero, List.set_cons_succ])
                refine wpList_nil ?_
                go_upto_region 11 with fail
                refine wp_region_lit ?_
                refine wpList_val (.int .i64 k) (by rfl) (by go_simp) ?_
                (try simp only [Act.put, List.getElem_toArray, List.getElem_cons_succ, List.getElem_cons_zero, List.setIfInBounds_toArray, List.set_cons_zero, List.set_cons_succ])
                refine wpList_val (.bool true) (by rfl) (by have q := HK2.out; go_simp) ?_
                (try simp only [Act.put, List.getElem_toArray, List.getElem_cons_succ, List.getElem_cons_zero, List.setIfInBounds_toArray, List.set_cons_zero, List.set_cons_succ])
                refine wpList_val (.bool true) (by rfl) (by go_simp) ?_
                (try simp only [Act.put, List.getElem_toArray, List.getElem_cons_succ, List.getElem_cons_zero, List.setIfInBounds_toArray, List.set_cons_zero, List.set_cons_succ])
                refine wpList_val (.agg (poA Q)) (by rfl) (kb_all K10.out 6 rfl 62 _ rfl rfl Try.underlying62 rfl (size50)) ?_
                (try simp only [Act.put, List.getElem_toArray, List.getElem_cons_succ, List.getElem_cons_zero, List.setIfInBounds_toArray, List.set_cons_zero, List.set_cons_succ])
                refine wpList_val (.agg (poA ⟨0, 0, false, 0, pr, x.f4, true, true, x.f2, x.f3, r0, r1, m, (x.v.r : Nat), (x.v.c : Nat), (x.v.b : Nat), (x.v.p : Nat), x.k0, x.k1, x.k2, x.k3⟩)) (by rfl) (kb_all K10.out 4 rfl 62 _ rfl rfl Try.underlying62 rfl (size50)) ?_
                (try simp only [Act.put, List.getElem_toArray, List.getElem_cons_succ, List.getElem_cons_zero, List.setIfInBounds_toArray, List.set_cons_zero, List.set_cons_succ])
                refine wpList_val (.bool true) (by rfl) (by have q := eq_po2 HQ2.out; go_simp) ?_
                (try simp only [Act.put, List.getElem_toArray, List.getElem_cons_succ, List.getElem_cons_zero, List.setIfInBounds_toArray, List.set_cons_zero, List.set_cons_succ])
                refine wpList_val (.bool true) (by rfl) (run_pick_yes (.tmp 98) (.tmp 101) (.const (.bool false)) _ rfl rfl rfl) ?_
                (try simp only [Act.put, List.getElem_toArray, List.getElem_cons_succ, List.getElem_cons_zero, List.setIfInBounds_toArray, List.set_cons_zero, List.set_cons_succ])
                refine wpList_val (.bool true) (by rfl) (by go_simp) ?_
                (try simp only [Act.put, List.getElem_toArray, List.getElem_cons_succ, List.getElem_cons_zero, List.setIfInBounds_toArray, List.set_cons_zero, List.set_cons_succ])
                refine wpList_nil ?_
                go_wp2_with fail
                go_ret
                exact ⟨ret_bool (rfl), K10.out.below⟩
            case true =>
              have HL := Lib.hid hl
              clear hl
              have ht : takesB ⟨0, 0, false, 0, pr, x.f4, true, true, x.f2, x.f3, r0, r1, m, (x.v.r : Nat), (x.v.c : Nat), (x.v.b : Nat), (x.v.p : Nat), x.k0, x.k1, x.k2, x.k3⟩ x.v y = true := by simp [takesB, anewB, HI.out, HL.out]
              have hQ : Q = ⟨0, 0, false, 0, pr, x.f4, true, true, x.f2, x.f3, r0, r1, 2, (y.r : Nat), (y.c : Nat), (y.b : Nat), (y.p : Nat), n0, (IntKind.i64.wrap (3 * h)), x.k2, x.k3⟩ := by rw [HQ.out]; unfold hearP; rw [HO.out, ht]; rfl
              have hK : k = 3 := by rw [HK.out]; unfold hearN; rw [HO.out, ht]; simp [HI.out]
              have HQ2 := Lib.hid hQ
              have HK2 := Lib.hid hK
              clear hQ hK
              clear ht
              refine wp_region_lit ?_
              refine wpList_val (.pointer (some ⟨b6x, 12, none⟩)) (by rfl) (by go_simp) ?_
              (try simp only [Act.put, List.getElem_toArray, List.getElem_cons_succ, List.getElem_cons_zero, List.setIfInBounds_toArray, List.set_cons_zero, List.set_cons_succ])
              refine wpList_val (.int .i64 m) (by rfl) (by have q : w9.cell? ⟨b6x, 12, none⟩ = some (.int .i64 m) := K9.out.cell (i := 4) rfl (by rfl); go_simp) ?_
              (try simp only [Act.put, List.getElem_toArray, List.getElem_cons_succ, List.getElem_cons_zero, List.setIfInBounds_toArray, List.set_cons_zero, List.set_cons_succ])
              refine wpList_val (.bool false) (by rfl) (by have q := HI.out; go_simp) ?_
              (try simp only [Act.put, List.getElem_toArray, List.getElem_cons_succ, List.getElem_cons_zero, List.setIfInBounds_toArray, List.set_cons_zero, List.set_cons_succ])
              refine wpList_val (.bool false) (by rfl) (by go_simp) ?_
              (try simp only [Act.put, List.getElem_toArray, List.getElem_cons_succ, List.getElem_cons_zero, List.setIfInBounds_toArray, List.set_cons_zero, List.set_cons_succ])
              refine wpList_nil ?_
              go_upto_region 9 with fail
              refine wp_region_lit ?_
              refine wpList_val (.bool false) (by rfl) (by go_simp) ?_
              (try simp only [Act.put, List.getElem_toArray, List.getElem_cons_succ, List.getElem_cons_zero, List.setIfInBounds_toArray, List.set_cons_zero, List.set_cons_succ])
              refine wpList_val (.bool false) (by rfl) (by go_simp) ?_
              (try simp only [Act.put, List.getElem_toArray, List.getElem_cons_succ, List.getElem_cons_zero, List.setIfInBounds_toArray, List.set_cons_zero, List.set_cons_succ])
              refine wpList_skip (by kernel_rfl) ?_
              (try simp only [Act.put, List.getElem_toArray, List.getElem_cons_succ, List.getElem_cons_zero, List.setIfInBounds_toArray, List.set_cons_zero, List.set_cons_succ])
              refine wpList_skip (by kernel_rfl) ?_
              (try simp only [Act.put, List.getElem_toArray, List.getElem_cons_succ, List.getElem_cons_zero, List.setIfInBounds_toArray, List.set_cons_zero, List.set_cons_succ])
              refine wpList_skip (by kernel_rfl) ?_
              (try simp only [Act.put, List.getElem_toArray, List.getElem_cons_succ, List.getElem_cons_zero, List.setIfInBounds_toArray, List.set_cons_zero, List.set_cons_succ])
              refine wpList_skip (by kernel_rfl) ?_
              (try simp only [Act.put, List.getElem_toArray, List.getElem_cons_succ, List.getElem_cons_zero, List.setIfInBounds_toArray, List.set_cons_zero, List.set_cons_succ])
              refine wpList_skip (by kernel_rfl) ?_
              (try simp only [Act.put, List.getElem_toArray, List.getElem_cons_succ, List.getElem_cons_zero, List.setIfInBounds_toArray, List.set_cons_zero, List.set_cons_succ])
              refine wpList_skip (by kernel_rfl) ?_
              (try simp only [Act.put, List.getElem_toArray, List.getElem_cons_succ, List.getElem_cons_zero, List.setIfInBounds_toArray, List.set_cons_zero, List.set_cons_succ])
              refine wpList_val (.bool false) (by rfl) (run_pick_no (.tmp 66) (.tmp 72) (.const (.bool false)) _ rfl rfl rfl) ?_
              (try simp only [Act.put, List.getElem_toArray, List.getElem_cons_succ, List.getElem_cons_zero, List.setIfInBounds_toArray, List.set_cons_zero, List.set_cons_succ])
              refine wpList_val (.bool false) (by rfl) (by go_simp) ?_
              (try simp only [Act.put, List.getElem_toArray, List.getElem_cons_succ, List.getElem_cons_zero, List.setIfInBounds_toArray, List.set_cons_zero, List.set_cons_succ])
              refine wpList_skip (by kernel_rfl) ?_
              (try simp only [Act.put, List.getElem_toArray, List.getElem_cons_succ, List.getElem_cons_zero, List.setIfInBounds_toArray, List.set_cons_zero, List.set_cons_succ])
              refine wpList_skip (by kernel_rfl) ?_
              (try simp only [Act.put, List.getElem_toArray, List.getElem_cons_succ, List.getElem_cons_zero, List.setIfInBounds_toArray, List.set_cons_zero, List.set_cons_succ])
              refine wpList_skip (by kernel_rfl) ?_
              (try simp only [Act.put, List.getElem_toArray, List.getElem_cons_succ, List.getElem_cons_zero, List.setIfInBounds_toArray, List.set_cons_zero, List.set_cons_succ])
              refine wpList_skip (by kernel_rfl) ?_
              (try simp only [Act.put, List.getElem_toArray, List.getElem_cons_succ, List.getElem_cons_zero, List.setIfInBounds_toArray, List.set_cons_zero, List.set_cons_succ])
              refine wpList_skip (by kernel_rfl) ?_
              (try simp only [Act.put, List.getElem_toArray, List.getElem_cons_succ, List.getElem_cons_zero, List.setIfInBounds_toArray, List.set_cons_zero, List.set_cons_succ])
              refine wpList_skip (by kernel_rfl) ?_
              (try simp only [Act.put, List.getElem_toArray, List.getElem_cons_succ, List.getElem_cons_zero, List.setIfInBounds_toArray, List.set_cons_zero, List.set_cons_succ])
              refine wpList_val (.bool false) (by rfl) (run_pick_no (.tmp 74) (.tmp 80) (.const (.bool false)) _ rfl rfl rfl) ?_
              (try simp only [Act.put, List.getElem_toArray, List.getElem_cons_succ, List.getElem_cons_zero, List.setIfInBounds_toArray, List.set_cons_zero, List.set_cons_succ])
              refine wpList_val (.bool false) (by rfl) (by go_simp) ?_
              (try simp only [Act.put, List.getElem_toArray, List.getElem_cons_succ, List.getElem_cons_zero, List.setIfInBounds_toArray, List.set_cons_zero, List.set_cons_succ])
              refine wpList_nil ?_
              go_upto_region 10 with fail
              refine wp_region_lit ?_
              refine wpList_val (.bool false) (by rfl) (by go_simp) ?_
              (try simp only [Act.put, List.getElem_toArray, List.getElem_cons_succ, List.getElem_cons_zero, List.setIfInBounds_toArray, List.set_cons_zero, List.set_cons_succ])
              refine wpList_val (.bool true) (by rfl) (by go_simp) ?_
              (try simp only [Act.put, List.getElem_toArray, List.getElem_cons_succ, List.getElem_cons_zero, List.setIfInBounds_toArray, List.set_cons_zero, List.set_cons_succ])
              refine wpList_val (.bool true) (by rfl) (by go_simp) ?_
              (try simp only [Act.put, List.getElem_toArray, List.getElem_cons_succ, List.getElem_cons_zero, List.setIfInBounds_toArray, List.set_cons_zero, List.set_cons_succ])
              refine wpList_val (.agg (vcA y)) (by rfl) (kb_all K9.out 5 rfl 44 _ rfl rfl Try.underlying44 rfl (sizeV)) ?_
              (try simp only [Act.put, List.getElem_toArray, List.getElem_cons_succ, List.getElem_cons_zero, List.setIfInBounds_toArray, List.set_cons_zero, List.set_cons_succ])
              refine wpList_val (.pointer (some ⟨b6x, 13, none⟩)) (by rfl) (by go_simp) ?_
              (try simp only [Act.put, List.getElem_toArray, List.getElem_cons_succ, List.getElem_cons_zero, List.setIfInBounds_toArray, List.set_cons_zero, List.set_cons_succ])
              refine wpList_val (.agg (#[.int .u64 (x.v.r : Nat), .int .u32 (x.v.c : Nat), .int .u64 (x.v.b : Nat), .int .u16 (x.v.p : Nat)])) (by rfl) (kb_part K9.out 4 rfl 44 _ 13 (#[.int .u64 (x.v.r : Nat), .int .u32 (x.v.c : Nat), .int .u64 (x.v.b : Nat), .int .u16 (x.v.p : Nat)]).toList rfl rfl (part_of (by kernel_rfl)) Try.underlying44 rfl (sizeV)) ?_
              (try simp only [Act.put, List.getElem_toArray, List.getElem_cons_succ, List.getElem_cons_zero, List.setIfInBounds_toArray, List.set_cons_zero, List.set_cons_succ])
              refine kb_call K9.out 13 #[.agg (vcA y), .agg (#[.int .u64 (x.v.r : Nat), .int .u32 (x.v.c : Nat), .int .u64 (x.v.b : Nat), .int .u16 (x.v.p : Nat)])] (.bool true) (by rfl) (by go_simp) (by have q := better_any y x.v w9; rw [HL.out] at q; exact q) ?_
              intro w10 hk
              have K10 := Lib.hid (show Kb w [(b1, lpA x, 55), (b2, tvA y, 52), (b3, #[.int .i64 n0, .int .i64 n1, .int .i64 n2], 56), (b5x, cfA ⟨0, n1, h, 0, 0, 0⟩, 58), (b6x, poA ⟨0, 0, false, 0, pr, x.f4, true, true, x.f2, x.f3, r0, r1, m, (x.v.r : Nat), (x.v.c : Nat), (x.v.b : Nat), (x.v.p : Nat), x.k0, x.k1, x.k2, x.k3⟩, 62), (b6y, vcA y, 44), (b8, poA Q, 62)] w10 from hk)
              clear hk
              (try simp only [Act.put, List.getElem_toArray, List.getElem_cons_succ, List.getElem_cons_zero, List.setIfInBounds_toArray, List.set_cons_zero, List.set_cons_succ])
              refine wpList_val (.bool false) (by rfl) (by go_simp) ?_
              (try simp only [Act.put, List.getElem_toArray, List.getElem_cons_succ, List.getElem_cons_zero, List.setIfInBounds_toArray, List.set_cons_zero, List.set_cons_succ])
              refine wpList_val (.bool false) (by rfl) (run_pick_yes (.tmp 84) (.tmp 89) (.const (.bool false)) _ rfl rfl rfl) ?_
              (try simp only [Act.put, List.getElem_toArray, List.getElem_cons_succ, List.getElem_cons_zero, List.setIfInBounds_toArray, List.set_cons_zero, List.set_cons_succ])
              refine wpList_val (.bool false) (by rfl) (by go_simp) ?_
              (try simp only [Act.put, List.getElem_toArray, List.getElem_cons_succ, List.getElem_cons_zero, List.setIfInBounds_toArray, List.set_cons_zero, List.set_cons_succ])
              refine wpList_skip (by kernel_rfl) ?_
              (try simp only [Act.put, List.getElem_toArray, List.getElem_cons_succ, List.getElem_cons_zero, List.setIfInBounds_toArray, List.set_cons_zero, List.set_cons_succ])
              refine wpList_skip (by kernel_rfl) ?_
              (try simp only [Act.put, List.getElem_toArray, List.getElem_cons_succ, List.getElem_cons_zero, List.setIfInBounds_toArray, List.set_cons_zero, List.set_cons_succ])
              refine wpList_skip (by kernel_rfl) ?_
              (try simp only [Act.put, List.getElem_toArray, List.getElem_cons_succ, List.getElem_cons_zero, List.setIfInBounds_toArray, List.set_cons_zero, List.set_cons_succ])
              refine wpList_val (.bool false) (by rfl) (run_pick_no (.tmp 91) (.tmp 94) (.const (.bool false)) _ rfl rfl rfl) ?_
              (try simp only [Act.put, List.getElem_toArray, List.getElem_cons_succ, List.getElem_cons_zero, List.setIfInBounds_toArray, List.set_cons_zero, List.set_cons_succ])
              refine wpList_nil ?_
              go_upto_region 12 with fail
              refine wp_region_lit ?_
              refine wpList_val (.int .i64 3) (by rfl) (by go_simp) ?_
              (try simp only [Act.put, List.getElem_toArray, List.getElem_cons_succ, List.getElem_cons_zero, List.setIfInBounds_toArray, List.set_cons_zero, List.set_cons_succ])
              refine wpList_nil ?_
              go_upto_region 13 with fail
              refine wp_region_lit ?_
              refine wpList_val (.bool false) (by rfl) (by go_simp) ?_
              (try simp only [Act.put, List.getElem_toArray, List.getElem_cons_succ, List.getElem_cons_zero, List.setIfInBounds_toArray, List.set_cons_zero, List.set_cons_succ])
              refine wpList_val (.bool false) (by rfl) (by go_simp) ?_
              (try simp only [Act.put, List.getElem_toArray, List.getElem_cons_succ, List.getElem_cons_zero, List.setIfInBounds_toArray, List.set_cons_zero, List.set_cons_succ])
              refine wpList_skip (by kernel_rfl) ?_
              (try simp only [Act.put, List.getElem_toArray, List.getElem_cons_succ, List.getElem_cons_zero, List.setIfInBounds_toArray, List.set_cons_zero, List.set_cons_succ])
              refine wpList_skip (by kernel_rfl) ?_
              (try simp only [Act.put, List.getElem_toArray, List.getElem_cons_succ, List.getElem_cons_zero, List.setIfInBounds_toArray, List.set_cons_zero, List.set_cons_succ])
              refine wpList_skip (by kernel_rfl) ?_
              (try simp only [Act.put, List.getElem_toArray, List.getElem_cons_succ, List.getElem_cons_zero, List.setIfInBounds_toArray, List.set_cons_zero, List.set_cons_succ])
              refine wpList_skip (by kernel_rfl) ?_
              (try simp only [Act.put, List.getElem_toArray, List.getElem_cons_succ, List.getElem_cons_zero, List.setIfInBounds_toArray, List.set_cons_zero, List.set_cons_succ])
              refine wpList_val (.bool false) (by rfl) (run_pick_no (.tmp 104) (.tmp 108) (.const (.bool false)) _ rfl rfl rfl) ?_
              (try simp only [Act.put, List.getElem_toArray, List.getElem_cons_succ, List.getElem_cons_zero, List.setIfInBounds_toArray, List.set_cons_zero, List.set_cons_succ])
              refine wpList_nil ?_
              go_upto_region 15 with fail
              refine wp_region_inv (I := fun L ac w' => ac = HrC2 x y n0 n1 n2 h m pr r0 r1 Q k b1 b2 b3 b5x b6x b6y b8 L ∧ Kb w [(b1, lpA x, 55), (b2, tvA y, 52), (b3, #[.int .i64 n0, .int .i64 n1, .int .i64 n2], 56), (b5x, cfA ⟨0, n1, h, 0, 0, 0⟩, 58), (b6x, poA ⟨0, 0, false, 0, pr, x.f4, true, true, x.f2, x.f3, r0, r1, (bif L 6 then 2 else m), (bif L 8 then (y.r : Nat) else (x.v.r : Nat)), (bif L 8 then (y.c : Nat) else (x.v.c : Nat)), (bif L 8 then (y.b : Nat) else (x.v.b : Nat)), (bif L 8 then (y.p : Nat) else (x.v.p : Nat)), (bif L 10 then n0 else x.k0), (bif L 12 then (IntKind.i64.wrap (3 * h)) else x.k1), x.k2, x.k3⟩, 62), (b6y, vcA y, 44), (b8, poA Q, 62)] w') (by kernel_rfl) (by kernel_rfl) ⟨by kernel_rfl, K10.out.drew⟩ ?_ ?_
              · intro i hi Lx ac w' hI hL haft
                obtain ⟨rfl, hw⟩ := hI
                match i, hi with
                | 0, _ =>
                  have g10 : (HrC2 x y n0 n1 n2 h m pr r0 r1 Q k b1 b2 b3 b5x b6x b6y b8 Lx).tmps[10]?.getD undef = .pointer (some ⟨b6y, 0, none⟩) := by kernel_rfl
                  have e10 : (HrC2 x y n0 n1 n2 h m pr r0 r1 Q k b1 b2 b3 b5x b6x b6y b8 Lx).eval (.tmp 10) = .pointer (some ⟨b6y, 0, none⟩) := by kernel_rfl
                  exact i_val rfl (.agg (vcA y)) w' (by rfl) (kb_all hw 5 rfl 44 _ rfl e10 Try.underlying44 rfl (sizeV)) ⟨by kernel_rfl, hw⟩
                | 1, _ =>
                  have g7 : (HrC2 x y n0 n1 n2 h m pr r0 r1 Q k b1 b2 b3 b5x b6x b6y b8 Lx).tmps[7]?.getD undef = .int .i64 n0 := by kernel_rfl
                  have e7 : (HrC2 x y n0 n1 n2 h m pr r0 r1 Q k b1 b2 b3 b5x b6x b6y b8 Lx).eval (.tmp 7) = .int .i64 n0 := by kernel_rfl
                  exact i_val rfl (.int .i64 n0) w' (by rfl) (by go_simp) ⟨by kernel_rfl, hw⟩
                | 2, _ =>
                  have g8 : (HrC2 x y n0 n1 n2 h m pr r0 r1 Q k b1 b2 b3 b5x b6x b6y b8 Lx).tmps[8]?.getD undef = .pointer (some ⟨b5x, 0, none⟩) := by kernel_rfl
                  have e8 : (HrC2 x y n0 n1 n2 h m pr r0 r1 Q k b1 b2 b3 b5x b6x b6y b8 Lx).eval (.tmp 8) = .pointer (some ⟨b5x, 0, none⟩) := by kernel_rfl
                  exact i_val rfl (.pointer (some ⟨b5x, 2, none⟩)) w' (by rfl) (by go_simp) ⟨by kernel_rfl, hw⟩
                | 3, _ =>
                  have h2 := haft 2 (by decide)
                  have e112 : (HrC2 x y n0 n1 n2 h m pr r0 r1 Q k b1 b2 b3 b5x b6x b6y b8 Lx).eval (.tmp 112) = .pointer (some ⟨b5x, 2, none⟩) := by show (bif Lx 2 then _ else _) = _; rw [h2]; rfl
                  have g112 : (HrC2 x y n0 n1 n2 h m pr r0 r1 Q k b1 b2 b3 b5x b6x b6y b8 Lx).tmps[112]?.getD undef = .pointer (some ⟨b5x, 2, none⟩) := by show (bif Lx 2 then _ else _) = _; rw [h2]; rfl
                  exact i_val rfl (.int .i64 h) w' (by rfl) (by have q : w'.cell? ⟨b5x, 2, none⟩ = some (.int .i64 h) := Kb.cell (i := 3) hw rfl (by rfl); go_simp) ⟨by kernel_rfl, hw⟩
                | 4, _ =>
                  have h3 := haft 3 (by decide)
                  have e113 : (HrC2 x y n0 n1 n2 h m pr r0 r1 Q k b1 b2 b3 b5x b6x b6y b8 Lx).eval (.tmp 113) = .int .i64 h := by show (bif Lx 3 then _ else _) = _; rw [h3]; rfl
                  have g113 : (HrC2 x y n0 n1 n2 h m pr r0 r1 Q k b1 b2 b3 b5x b6x b6y b8 Lx).tmps[113]?.getD undef = .int .i64 h := by show (bif Lx 3 then _ else _) = _; rw [h3]; rfl
                  exact i_val rfl (.int .i64 (IntKind.i64.wrap (3 * h))) w' (by rfl) (by go_simp) ⟨by kernel_rfl, hw⟩
                | 5, _ =>
                  have g9 : (HrC2 x y n0 n1 n2 h m pr r0 r1 Q k b1 b2 b3 b5x b6x b6y b8 Lx).tmps[9]?.getD undef = .pointer (some ⟨b6x, 0, none⟩) := by kernel_rfl
                  have e9 : (HrC2 x y n0 n1 n2 h m pr r0 r1 Q k b1 b2 b3 b5x b6x b6y b8 Lx).eval (.tmp 9) = .pointer (some ⟨b6x, 0, none⟩) := by kernel_rfl
                  exact i_val rfl (.pointer (some ⟨b6x, 12, none⟩)) w' (by rfl) (by go_simp) ⟨by kernel_rfl, hw⟩
                | 6, _ =>
                  have h5 := haft 5 (by decide)
                  have e115 : (HrC2 x y n0 n1 n2 h m pr r0 r1 Q k b1 b2 b3 b5x b6x b6y b8 Lx).eval (.tmp 115) = .pointer (some ⟨b6x, 12, none⟩) := by show (bif Lx 5 then _ else _) = _; rw [h5]; rfl
                  have g115 : (HrC2 x y n0 n1 n2 h m pr r0 r1 Q k b1 b2 b3 b5x b6x b6y b8 Lx).tmps[115]?.getD undef = .pointer (some ⟨b6x, 12, none⟩) := by show (bif Lx 5 then _ else _) = _; rw [h5]; rfl
                  exact i_wp rfl (by rfl) (wp_store_cell 3 _ _ rfl ⟨b6x, 12, none⟩ (.int .i64 2) e115 rfl (kb_run_set hw (i := 4) rfl 3 12 (.int .i64 (bif Lx 6 then 2 else m)) (.int .i64 2) (by rfl) (fun W h1 h2 => by go_simp)) ⟨by kernel_rfl, cast_blk (Kb.set (i := 4) hw rfl 12 (.int .i64 2)) (by rfl)⟩)
                | 7, _ =>
                  have g9 : (HrC2 x y n0 n1 n2 h m pr r0 r1 Q k b1 b2 b3 b5x b6x b6y b8 Lx).tmps[9]?.getD undef = .pointer (some ⟨b6x, 0, none⟩) := by kernel_rfl
                  have e9 : (HrC2 x y n0 n1 n2 h m pr r0 r1 Q k b1 b2 b3 b5x b6x b6y b8 Lx).eval (.tmp 9) = .pointer (some ⟨b6x, 0, none⟩) := by kernel_rfl
                  exact i_val rfl (.pointer (some ⟨b6x, 13, none⟩)) w' (by rfl) (by go_simp) ⟨by kernel_rfl, hw⟩
                | 8, _ =>
                  have h0 := haft 0 (by decide)
                  have e110 : (HrC2 x y n0 n1 n2 h m pr r0 r1 Q k b1 b2 b3 b5x b6x b6y b8 Lx).eval (.tmp 110) = .agg (vcA y) := by show (bif Lx 0 then _ else _) = _; rw [h0]; rfl
                  have g110 : (HrC2 x y n0 n1 n2 h m pr r0 r1 Q k b1 b2 b3 b5x b6x b6y b8 Lx).tmps[110]?.getD undef = .agg (vcA y) := by show (bif Lx 0 then _ else _) = _; rw [h0]; rfl
                  have h7 := haft 7 (by decide)
                  have e116 : (HrC2 x y n0 n1 n2 h m pr r0 r1 Q k b1 b2 b3 b5x b6x b6y b8 Lx).eval (.tmp 116) = .pointer (some ⟨b6x, 13, none⟩) := by show (bif Lx 7 then _ else _) = _; rw [h7]; rfl
                  have g116 : (HrC2 x y n0 n1 n2 h m pr r0 r1 Q k b1 b2 b3 b5x b6x b6y b8 Lx).tmps[116]?.getD undef = .pointer (some ⟨b6x, 13, none⟩) := by show (bif Lx 7 then _ else _) = _; rw [h7]; rfl
                  exact i_wp rfl (by rfl) (wp_store_mid 44 _ _ rfl b6x 13 (vcA y) e116 e110 ((Kb.at (i := 4) hw rfl).thereN 13 4 (Nat.le_of_ble_eq_true (by kernel_rfl))) (sizeV) (by kernel_rfl) ⟨by kernel_rfl, cast_blk (Kb.mid (i := 4) hw rfl 13 (vcA y).toList) (by rfl)⟩)
                | 9, _ =>
                  have g9 : (HrC2 x y n0 n1 n2 h m pr r0 r1 Q k b1 b2 b3 b5x b6x b6y b8 Lx).tmps[9]?.getD undef = .pointer (some ⟨b6x, 0, none⟩) := by kernel_rfl
                  have e9 : (HrC2 x y n0 n1 n2 h m pr r0 r1 Q k b1 b2 b3 b5x b6x b6y b8 Lx).eval (.tmp 9) = .pointer (some ⟨b6x, 0, none⟩) := by kernel_rfl
                  exact i_val rfl (.pointer (some ⟨b6x, 17, none⟩)) w' (by rfl) (by go_simp) ⟨by kernel_rfl, hw⟩
                | 10, _ =>
                  have h1 := haft 1 (by decide)
                  have e111 : (HrC2 x y n0 n1 n2 h m pr r0 r1 Q k b1 b2 b3 b5x b6x b6y b8 Lx).eval (.tmp 111) = .int .i64 n0 := by show (bif Lx 1 then _ else _) = _; rw [h1]; rfl
                  have g111 : (HrC2 x y n0 n1 n2 h m pr r0 r1 Q k b1 b2 b3 b5x b6x b6y b8 Lx).tmps[111]?.getD undef = .int .i64 n0 := by show (bif Lx 1 then _ else _) = _; rw [h1]; rfl
                  have h9 := haft 9 (by decide)
                  have e117 : (HrC2 x y n0 n1 n2 h m pr r0 r1 Q k b1 b2 b3 b5x b6x b6y b8 Lx).eval (.tmp 117) = .pointer (some ⟨b6x, 17, none⟩) := by show (bif Lx 9 then _ else _) = _; rw [h9]; rfl
                  have g117 : (HrC2 x y n0 n1 n2 h m pr r0 r1 Q k b1 b2 b3 b5x b6x b6y b8 Lx).tmps[117]?.getD undef = .pointer (some ⟨b6x, 17, none⟩) := by show (bif Lx 9 then _ else _) = _; rw [h9]; rfl
                  exact i_wp rfl (by rfl) (wp_store_cell 3 _ _ rfl ⟨b6x, 17, none⟩ (.int .i64 n0) e117 e111 (kb_run_set hw (i := 4) rfl 3 17 (.int .i64 (bif Lx 10 then n0 else x.k0)) (.int .i64 n0) (by rfl) (fun W h1 h2 => by go_simp)) ⟨by kernel_rfl, cast_blk (Kb.set (i := 4) hw rfl 17 (.int .i64 n0)) (by rfl)⟩)
                | 11, _ =>
                  have g9 : (HrC2 x y n0 n1 n2 h m pr r0 r1 Q k b1 b2 b3 b5x b6x b6y b8 Lx).tmps[9]?.getD undef = .pointer (some ⟨b6x, 0, none⟩) := by kernel_rfl
                  have e9 : (HrC2 x y n0 n1 n2 h m pr r0 r1 Q k b1 b2 b3 b5x b6x b6y b8 Lx).eval (.tmp 9) = .pointer (some ⟨b6x, 0, none⟩) := by kernel_rfl
                  exact i_val rfl (.pointer (some ⟨b6x, 18, none⟩)) w' (by rfl) (by go_simp) ⟨by kernel_rfl, hw⟩
                | 12, _ =>
                  have h4 := haft 4 (by decide)
                  have e114 : (HrC2 x y n0 n1 n2 h m pr r0 r1 Q k b1 b2 b3 b5x b6x b6y b8 Lx).eval (.tmp 114) = .int .i64 (IntKind.i64.wrap (3 * h)) := by show (bif Lx 4 then _ else _) = _; rw [h4]; rfl
                  have g114 : (HrC2 x y n0 n1 n2 h m pr r0 r1 Q k b1 b2 b3 b5x b6x b6y b8 Lx).tmps[114]?.getD undef = .int .i64 (IntKind.i64.wrap (3 * h)) := by show (bif Lx 4 then _ else _) = _; rw [h4]; rfl
                  have h11 := haft 11 (by decide)
                  have e118 : (HrC2 x y n0 n1 n2 h m pr r0 r1 Q k b1 b2 b3 b5x b6x b6y b8 Lx).eval (.tmp 118) = .pointer (some ⟨b6x, 18, none⟩) := by show (bif Lx 11 then _ else _) = _; rw [h11]; rfl
                  have g118 : (HrC2 x y n0 n1 n2 h m pr r0 r1 Q k b1 b2 b3 b5x b6x b6y b8 Lx).tmps[118]?.getD undef = .pointer (some ⟨b6x, 18, none⟩) := by show (bif Lx 11 then _ else _) = _; rw [h11]; rfl
                  exact i_wp rfl (by rfl) (wp_store_cell 3 _ _ rfl ⟨b6x, 18, none⟩ (.int .i64 (IntKind.i64.wrap (3 * h))) e118 e114 (kb_run_set hw (i := 4) rfl 3 18 (.int .i64 (bif Lx 12 then (IntKind.i64.wrap (3 * h)) else x.k1)) (.int .i64 (IntKind.i64.wrap (3 * h))) (by rfl) (fun W h1 h2 => by go_simp)) ⟨by kernel_rfl, cast_blk (Kb.set (i := 4) hw rfl 18 (.int .i64 (IntKind.i64.wrap (3 * h)))) (by rfl)⟩)
                | k + 13, h =>
                  exfalso
                  have h2 : k + 13 < 13 := h
                  omega
              intro Lx ac w11 hI hall
              obtain ⟨rfl, hw⟩ := hI
              have hfr : HrC2 x y n0 n1 n2 h m pr r0 r1 Q k b1 b2 b3 b5x b6x b6y b8 Lx = { tmps := #[.agg (lpA x), .agg (tvA y), .agg (#[.int .i64 n0, .int .i64 n1, .int .i64 n2]), .pointer (some ⟨b1, 0, none⟩), .pointer (some ⟨b2, 0, none⟩), .pointer (some ⟨b3, 0, none⟩), .bool false, .int .i64 n0, .pointer (some ⟨b5x, 0, none⟩), .pointer (some ⟨b6x, 0, none⟩), .pointer (some ⟨b6y, 0, none⟩), .pointer (some ⟨b8, 0, none⟩), .int .i64 k, .bool false, .bool false, .int .i64 3, .bool true, .bool false, .pointer (some ⟨b3, 0, none⟩), .int .i64 n0, .pointer (some ⟨b3, 1, none⟩), .int .i64 n1, .pointer (some ⟨b3, 2, none⟩), .int .i64 n2, .int .i64 h, .agg (cfA ⟨0, n1, h, 0, 0, 0⟩), .agg (lpA x), .agg (poA ⟨0, 0, false, 0, pr, x.f4, true, true, x.f2, x.f3, r0, r1, m, (x.v.r : Nat), (x.v.c : Nat), (x.v.b : Nat), (x.v.p : Nat), x.k0, x.k1, x.k2, x.k3⟩), .agg (tvA y), .agg (vcA y), .tuple #[.agg (poA Q), .int .i64 k], .agg (poA ⟨0, 0, false, 0, pr, x.f4, true, true, x.f2, x.f3, r0, r1, m, (x.v.r : Nat), (x.v.c : Nat), (x.v.b : Nat), (x.v.p : Nat), x.k0, x.k1, x.k2, x.k3⟩), .agg (vcA y), .int .i64 n0, .agg (cfA ⟨0, n1, h, 0, 0, 0⟩), .tuple #[.agg (poA Q), .int .i64 k], .agg (poA Q), .int .i64 k, .pointer (some ⟨b6x, 7, none⟩), .bool true, .bool true, .pointer (some ⟨b6x, 6, none⟩), .bool true, .bool true, .bool false, .bool false, .int .i64 n0, .bool false, .bool false, .bool false, .int .i64 n0, .pointer (some ⟨b5x, 1, none⟩), .int .i64 n1, .bool false, .bool false, undef, undef, undef, undef, undef, undef, undef, .pointer (some ⟨b6x, 12, none⟩), .int .i64 m, .bool false, .bool false, .bool false, undef, undef, undef, undef, undef, undef, .bool false, .bool false, undef, undef, undef, undef, undef, undef, .bool false, .bool false, .bool true, .bool true, .agg (vcA y), .pointer (some ⟨b6x, 13, none⟩), .agg (#[.int .u64 (x.v.r : Nat), .int .u32 (x.v.c : Nat), .int .u64 (x.v.b : Nat), .int .u16 (x.v.p : Nat)]), .bool true, .bool false, .bool false, .bool false, undef, undef, undef, .bool false, undef, undef, undef, undef, undef, undef, undef, .bool false, .bool false, undef, undef, undef, undef, .bool false, .agg (vcA y), .int .i64 n0, .pointer (some ⟨b5x, 2, none⟩), .int .i64 h, .int .i64 (IntKind.i64.wrap (3 * h)), .pointer (some ⟨b6x, 12, none⟩), .pointer (some ⟨b6x, 13, none⟩), .pointer (some ⟨b6x, 17, none⟩), .pointer (some ⟨b6x, 18, none⟩), undef, undef, undef, undef, undef, undef, undef, undef], defers := [] } := by unfold HrC2; simp only [hall 0 (by decide), hall 1 (by decide), hall 2 (by decide), hall 3 (by decide), hall 4 (by decide), hall 5 (by decide), hall 7 (by decide), hall 9 (by decide), hall 11 (by decide), cond_true]
              rw [hfr]
              clear hfr
              have hL6 := hall 6 (by decide)
              have hL8 := hall 8 (by decide)
              have hL10 := hall 10 (by decide)
              have hL12 := hall 12 (by decide)
              simp only [hL6, hL8, hL10, hL12, cond_true] at hw
              have K11 := Lib.hid (show Kb w [(b1, lpA x, 55), (b2, tvA y, 52), (b3, #[.int .i64 n0, .int .i64 n1, .int .i64 n2], 56), (b5x, cfA ⟨0, n1, h, 0, 0, 0⟩, 58), (b6x, poA ⟨0, 0, false, 0, pr, x.f4, true, true, x.f2, x.f3, r0, r1, 2, (y.r : Nat), (y.c : Nat), (y.b : Nat), (y.p : Nat), n0, (IntKind.i64.wrap (3 * h)), x.k2, x.k3⟩, 62), (b6y, vcA y, 44), (b8, poA Q, 62)] w11 from hw)
              clear hw hall hL6 hL8 hL10 hL12
              go_upto_region 16 with fail
              refine wp_region_lit ?_
              refine wpList_val (.int .i64 k) (by rfl) (by go_simp) ?_
              (try simp only [Act.put, List.getElem_toArray, List.getElem_cons_succ, List.getElem_cons_zero, List.setIfInBounds_toArray, List.set_cons_zero, List.set_cons_succ])
              refine wpList_val (.int .i64 3) (by rfl) (by go_simp) ?_
              (try simp only [Act.put, List.getElem_toArray, List.getElem_cons_succ, List.getElem_cons_zero, List.setIfInBounds_toArray, List.set_cons_zero, List.set_cons_succ])
              refine wpList_val (.bool true) (by rfl) (by have q := HK2.out; go_simp) ?_
              (try simp only [Act.put, List.getElem_toArray, List.getElem_cons_succ, List.getElem_cons_zero, List.setIfInBounds_toArray, List.set_cons_zero, List.set_cons_succ])
              refine wpList_val (.bool true) (by rfl) (by go_simp) ?_
              (try simp only [Act.put, List.getElem_toArray, List.getElem_cons_succ, List.getElem_cons_zero, List.setIfInBounds_toArray, List.set_cons_zero, List.set_cons_succ])
              refine wpList_val (.agg (poA Q)) (by rfl) (kb_all K11.out 6 rfl 62 _ rfl rfl Try.underlying62 rfl (size50)) ?_
              (try simp only [Act.put, List.getElem_toArray, List.getElem_cons_succ, List.getElem_cons_zero, List.setIfInBounds_toArray, List.set_cons_zero, List.set_cons_succ])
              refine wpList_val (.agg (poA ⟨0, 0, false, 0, pr, x.f4, true, true, x.f2, x.f3, r0, r1, 2, (y.r : Nat), (y.c : Nat), (y.b : Nat), (y.p : Nat), n0, (IntKind.i64.wrap (3 * h)), x.k2, x.k3⟩)) (by rfl) (kb_all K11.out 4 rfl 62 _ rfl rfl Try.underlying62 rfl (size50)) ?_
              (try simp only [Act.put, List.getElem_toArray, List.getElem_cons_succ, List.getElem_cons_zero, List.setIfInBounds_toArray, List.set_cons_zero, List.set_cons_succ])
              refine wpList_val (.bool true) (by rfl) (by have q := eq_po2 HQ2.out; go_simp) ?_
              (try simp only [Act.put, List.getElem_toArray, List.getElem_cons_succ, List.getElem_cons_zero, List.setIfInBounds_toArray, List.set_cons_zero, List.set_cons_succ])
              refine wpList_val (.bool true) (by rfl) (run_pick_yes (.tmp 122) (.tmp 125) (.const (.bool false)) _ rfl rfl rfl) ?_
              (try simp only [Act.put, List.getElem_toArray, List.getElem_cons_succ, List.getElem_cons_zero, List.setIfInBounds_toArray, List.set_cons_zero, List.set_cons_succ])
              refine wpList_val (.bool true) (by rfl) (by go_simp) ?_
              (try simp only [Act.put, List.getElem_toArray, List.getElem_cons_succ, List.getElem_cons_zero, List.setIfInBounds_toArray, List.set_cons_zero, List.set_cons_succ])
              refine wpList_nil ?_
              go_wp2_with fail
              go_ret
              exact ⟨ret_bool (rfl), K11.out.below⟩
          case pos =>
            have hm0 : ¬ m = 0 := by omega
            have HI := Lib.hid hi
            clear hi
            have HM0 := Lib.hid hm0
            clear hm0
            by_cases hb : (y.b : Int) = (x.v.b : Int)
            case neg =>
              have hbn : ¬ y.b = x.v.b := by omega
              have he : eqV x.v y = false := by simp [eqV]; omega
              have HB := Lib.hid hb
              clear hb
              have HBN := Lib.hid hbn
              clear hbn
              cases hl : lessV y x.v
              case false =>
                have HL := Lib.hid hl
                clear hl
                have ht : takesB ⟨0, 0, false, 0, pr, x.f4, true, true, x.f2, x.f3, r0, r1, m, (x.v.r : Nat), (x.v.c : Nat), (x.v.b : Nat), (x.v.p : Nat), x.k0, x.k1, x.k2, x.k3⟩ x.v y = false := by simp [takesB, anewB, HI.out, HBN.out, HL.out, HM0.out]
                have hQ : Q = ⟨0, 0, false, 0, pr, x.f4, true, true, x.f2, x.f3, r0, r1, m, (x.v.r : Nat), (x.v.c : Nat), (x.v.b : Nat), (x.v.p : Nat), x.k0, x.k1, x.k2, x.k3⟩ := by rw [HQ.out]; unfold hearP; rw [HO.out, ht]; rfl
                have hK : k = 1 := by rw [HK.out]; unfold hearN; rw [HO.out, ht]; rfl
                have HQ2 := Lib.hid hQ
                have HK2 := Lib.hid hK
                clear hQ hK
                clear ht
                refine wp_region_lit ?_
                refine wpList_val (.pointer (some ⟨b6x, 12, none⟩)) (by rfl) (by go_simp) ?_
                (try simp only [Act.put, List.getElem_toArray, List.getElem_cons_succ, List.getElem_cons_zero, List.setIfInBounds_toArray, List.set_cons_zero, List.set_cons_succ])
                refine wpList_val (.int .i64 m) (by rfl) (by have q : w9.cell? ⟨b6x, 12, none⟩ = some (.int .i64 m) := K9.out.cell (i := 4) rfl (by rfl); go_simp) ?_
                (try simp only [Act.put, List.getElem_toArray, List.getElem_cons_succ, List.getElem_cons_zero, List.setIfInBounds_toArray, List.set_cons_zero, List.set_cons_succ])
                refine wpList_val (.bool true) (by rfl) (by have q := HI.out; go_simp) ?_
                (try simp only [Act.put, List.getElem_toArray, List.getElem_cons_succ, List.getElem_cons_zero, List.setIfInBounds_toArray, List.set_cons_zero, List.set_cons_succ])
                refine wpList_val (.bool true) (by rfl) (by go_simp) ?_
                (try simp only [Act.put, List.getElem_toArray, List.getElem_cons_succ, List.getElem_cons_zero, List.setIfInBounds_toArray, List.set_cons_zero, List.set_cons_succ])
                refine wpList_nil ?_
                go_upto_region 9 with fail
                refine wp_region_lit ?_
                refine wpList_val (.bool true) (by rfl) (by go_simp) ?_
                (try simp only [Act.put, List.getElem_toArray, List.getElem_cons_succ, List.getElem_cons_zero, List.setIfInBounds_toArray, List.set_cons_zero, List.set_cons_succ])
                refine wpList_val (.bool true) (by rfl) (by go_simp) ?_
                (try simp only [Act.put, List.getElem_toArray, List.getElem_cons_succ, List.getElem_cons_zero, List.setIfInBounds_toArray, List.set_cons_zero, List.set_cons_succ])
                refine wpList_val (.pointer (some ⟨b6y, 2, none⟩)) (by rfl) (by go_simp) ?_
                (try simp only [Act.put, List.getElem_toArray, List.getElem_cons_succ, List.getElem_cons_zero, List.setIfInBounds_toArray, List.set_cons_zero, List.set_cons_succ])
                refine wpList_val (.int .u64 (y.b : Nat)) (by rfl) (by have q : w9.cell? ⟨b6y, 2, none⟩ = some (.int .u64 (y.b : Nat)) := K9.out.cell (i := 5) rfl (by rfl); go_simp) ?_
                (try simp only [Act.put, List.getElem_toArray, List.getElem_cons_succ, List.getElem_cons_zero, List.setIfInBounds_toArray, List.set_cons_zero, List.set_cons_succ])
                refine wpList_val (.pointer (some ⟨b6x, 13, none⟩)) (by rfl) (by go_simp) ?_
                (try simp only [Act.put, List.getElem_toArray, List.getElem_cons_succ, List.getElem_cons_zero, List.setIfInBounds_toArray, List.set_cons_zero, List.set_cons_succ])
                refine wpList_val (.pointer (some ⟨b6x, 15, none⟩)) (by rfl) (by go_simp) ?_
                (try simp only [Act.put, List.getElem_toArray, List.getElem_cons_succ, List.getElem_cons_zero, List.setIfInBounds_toArray, List.set_cons_zero, List.set_cons_succ])
                refine wpList_val (.int .u64 (x.v.b : Nat)) (by rfl) (by have q : w9.cell? ⟨b6x, 15, none⟩ = some (.int .u64 (x.v.b : Nat)) := K9.out.cell (i := 4) rfl (by rfl); go_simp) ?_
                (try simp only [Act.put, List.getElem_toArray, List.getElem_cons_succ, List.getElem_cons_zero, List.setIfInBounds_toArray, List.set_cons_zero, List.set_cons_succ])
                refine wpList_val (.bool false) (by rfl) (by have q := HB.out; go_simp) ?_
                (try simp only [Act.put, List.getElem_toArray, List.getElem_cons_succ, List.getElem_cons_zero, List.setIfInBounds_toArray, List.set_cons_zero, List.set_cons_succ])
                refine wpList_val (.bool false) (by rfl) (run_pick_yes (.tmp 66) (.tmp 72) (.const (.bool false)) _ rfl rfl rfl) ?_
                (try simp only [Act.put, List.getElem_toArray, List.getElem_cons_succ, List.getElem_cons_zero, List.setIfInBounds_toArray, List.set_cons_zero, List.set_cons_succ])
                refine wpList_val (.bool false) (by rfl) (by go_simp) ?_
                (try simp only [Act.put, List.getElem_toArray, List.getElem_cons_succ, List.getElem_cons_zero, List.setIfInBounds_toArray, List.set_cons_zero, List.set_cons_succ])
                refine wpList_skip (by kernel_rfl) ?_
                (try simp only [Act.put, List.getElem_toArray, List.getElem_cons_succ, List.getElem_cons_zero, List.setIfInBounds_toArray, List.set_cons_zero, List.set_cons_succ])
                refine wpList_skip (by kernel_rfl) ?_
                (try simp only [Act.put, List.getElem_toArray, List.getElem_cons_succ, List.getElem_cons_zero, List.setIfInBounds_toArray, List.set_cons_zero, List.set_cons_succ])
                refine wpList_skip (by kernel_rfl) ?_
                (try simp only [Act.put, List.getElem_toArray, List.getElem_cons_succ, List.getElem_cons_zero, List.setIfInBounds_toArray, List.set_cons_zero, List.set_cons_succ])
                refine wpList_skip (by kernel_rfl) ?_
                (try simp only [Act.put, List.getElem_toArray, List.getElem_cons_succ, List.getElem_cons_zero, List.setIfInBounds_toArray, List.set_cons_zero, List.set_cons_succ])
                refine wpList_skip (by kernel_rfl) ?_
                (try simp only [Act.put, List.getElem_toArray, List.getElem_cons_succ, List.getElem_cons_zero, List.setIfInBounds_toArray, List.set_cons_zero, List.set_cons_succ])
                refine wpList_skip (by kernel_rfl) ?_
                (try simp only [Act.put, List.getElem_toArray, List.getElem_cons_succ, List.getElem_cons_zero, List.setIfInBounds_toArray, List.set_cons_zero, List.set_cons_succ])
                refine wpList_val (.bool false) (by rfl) (run_pick_no (.tmp 74) (.tmp 80) (.const (.bool false)) _ rfl rfl rfl) ?_
                (try simp only [Act.put, List.getElem_toArray, List.getElem_cons_succ, List.getElem_cons_zero, List.setIfInBounds_toArray, List.set_cons_zero, List.set_cons_succ])
                refine wpList_val (.bool false) (by rfl) (by go_simp) ?_
                (try simp only [Act.put, List.getElem_toArray, List.getElem_cons_succ, List.getElem_cons_zero, List.setIfInBounds_toArray, List.set_cons_zero, List.set_cons_succ])
                refine wpList_nil ?_
                go_upto_region 10 with fail
                refine wp_region_lit ?_
                refine wpList_val (.bool false) (by rfl) (by go_simp) ?_
                (try simp only [Act.put, List.getElem_toArray, List.getElem_cons_succ, List.getElem_cons_zero, List.setIfInBounds_toArray, List.set_cons_zero, List.set_cons_succ])
                refine wpList_val (.bool true) (by rfl) (by go_simp) ?_
                (try simp only [Act.put, List.getElem_toArray, List.getElem_cons_succ, List.getElem_cons_zero, List.setIfInBounds_toArray, List.set_cons_zero, List.set_cons_succ])
                refine wpList_val (.bool true) (by rfl) (by go_simp) ?_
                (try simp only [Act.put, List.getElem_toArray, List.getElem_cons_succ, List.getElem_cons_zero, List.setIfInBounds_toArray, List.set_cons_zero, List.set_cons_succ])
                refine wpList_val (.agg (vcA y)) (by rfl) (kb_all K9.out 5 rfl 44 _ rfl rfl Try.underlying44 rfl (sizeV)) ?_
                (try simp only [Act.put, List.getElem_toArray, List.getElem_cons_succ, List.getElem_cons_zero, List.setIfInBounds_toArray, List.set_cons_zero, List.set_cons_succ])
                refine wpList_val (.pointer (some ⟨b6x, 13, none⟩)) (by rfl) (by go_simp) ?_
                (try simp only [Act.put, List.getElem_toArray, List.getElem_cons_succ, List.getElem_cons_zero, List.setIfInBounds_toArray, List.set_cons_zero, List.set_cons_succ])
                refine wpList_val (.agg (#[.int .u64 (x.v.r : Nat), .int .u32 (x.v.c : Nat), .int .u64 (x.v.b : Nat), .int .u16 (x.v.p : Nat)])) (by rfl) (kb_part K9.out 4 rfl 44 _ 13 (#[.int .u64 (x.v.r : Nat), .int .u32 (x.v.c : Nat), .int .u64 (x.v.b : Nat), .int .u16 (x.v.p : Nat)]).toList rfl rfl (part_of (by kernel_rfl)) Try.underlying44 rfl (sizeV)) ?_
                (try simp only [Act.put, List.getElem_toArray, List.getElem_cons_succ, List.getElem_cons_zero, List.setIfInBounds_toArray, List.set_cons_zero, List.set_cons_succ])
                refine kb_call K9.out 13 #[.agg (vcA y), .agg (#[.int .u64 (x.v.r : Nat), .int .u32 (x.v.c : Nat), .int .u64 (x.v.b : Nat), .int .u16 (x.v.p : Nat)])] (.bool false) (by rfl) (by go_simp) (by have q := better_any y x.v w9; rw [HL.out] at q; exact q) ?_
                intro w10 hk
                have K10 := Lib.hid (show Kb w [(b1, lpA x, 55), (b2, tvA y, 52), (b3, #[.int .i64 n0, .int .i64 n1, .int .i64 n2], 56), (b5x, cfA ⟨0, n1, h, 0, 0, 0⟩, 58), (b6x, poA ⟨0, 0, false, 0, pr, x.f4, true, true, x.f2, x.f3, r0, r1, m, (x.v.r : Nat), (x.v.c : Nat), (x.v.b : Nat), (x.v.p : Nat), x.k0, x.k1, x.k2, x.k3⟩, 62), (b6y, vcA y, 44), (b8, poA Q, 62)] w10 from hk)
                clear hk
                (try simp only [Act.put, List.getElem_toArray, List.getElem_cons_succ, List.getElem_cons_zero, List.setIfInBounds_toArray, List.set_cons_zero, List.set_cons_succ])
                refine wpList_val (.bool true) (by rfl) (by go_simp) ?_
                (try simp only [Act.put, List.getElem_toArray, List.getElem_cons_succ, List.getElem_cons_zero, List.setIfInBounds_toArray, List.set_cons_zero, List.set_cons_succ])
                refine wpList_val (.bool true) (by rfl) (run_pick_yes (.tmp 84) (.tmp 89) (.const (.bool false)) _ rfl rfl rfl) ?_
                (try simp only [Act.put, List.getElem_toArray, List.getElem_cons_succ, List.getElem_cons_zero, List.setIfInBounds_toArray, List.set_cons_zero, List.set_cons_succ])
                refine wpList_val (.bool true) (by rfl) (by go_simp) ?_
                (try simp only [Act.put, List.getElem_toArray, List.getElem_cons_succ, List.getElem_cons_zero, List.setIfInBounds_toArray, List.set_cons_zero, List.set_cons_succ])
                refine wpList_val (.pointer (some ⟨b6x, 12, none⟩)) (by rfl) (by go_simp) ?_
                (try simp only [Act.put, List.getElem_toArray, List.getElem_cons_succ, List.getElem_cons_zero, List.setIfInBounds_toArray, List.set_cons_zero, List.set_cons_succ])
                refine wpList_val (.int .i64 m) (by rfl) (by have q : w10.cell? ⟨b6x, 12, none⟩ = some (.int .i64 m) := K10.out.cell (i := 4) rfl (by rfl); go_simp) ?_
                (try simp only [Act.put, List.getElem_toArray, List.getElem_cons_succ, List.getElem_cons_zero, List.setIfInBounds_toArray, List.set_cons_zero, List.set_cons_succ])
                refine wpList_val (.bool true) (by rfl) (by have q := HM0.out; go_simp) ?_
                (try simp only [Act.put, List.getElem_toArray, List.getElem_cons_succ, List.getElem_cons_zero, List.setIfInBounds_toArray, List.set_cons_zero, List.set_cons_succ])
                refine wpList_val (.bool true) (by rfl) (run_pick_yes (.tmp 91) (.tmp 94) (.const (.bool false)) _ rfl rfl rfl) ?_
                (try simp only [Act.put, List.getElem_toArray, List.getElem_cons_succ, List.getElem_cons_zero, List.setIfInBounds_toArray, List.set_cons_zero, List.set_cons_succ])
                refine wpList_nil ?_
                go_upto_region 11 with fail
                refine wp_region_lit ?_
                refine wpList_val (.int .i64 k) (by rfl) (by go_simp) ?_
                (try simp only [Act.put, List.getElem_toArray, List.getElem_cons_succ, List.getElem_cons_zero, List.setIfInBounds_toArray, List.set_cons_zero, List.set_cons_succ])
                refine wpList_val (.bool true) (by rfl) (by have q := HK2.out; go_simp) ?_
                (try simp only [Act.put, List.getElem_toArray, List.getElem_cons_succ, List.getElem_cons_zero, List.setIfInBounds_toArray, List.set_cons_zero, List.set_cons_succ])
                refine wpList_val (.bool true) (by rfl) (by go_simp) ?_
                (try simp only [Act.put, List.getElem_toArray, List.getElem_cons_succ, List.getElem_cons_zero, List.setIfInBounds_toArray, List.set_cons_zero, List.set_cons_succ])
                refine wpList_val (.agg (poA Q)) (by rfl) (kb_all K10.out 6 rfl 62 _ rfl rfl Try.underlying62 rfl (size50)) ?_
                (try simp only [Act.put, List.getElem_toArray, List.getElem_cons_succ, List.getElem_cons_zero, List.setIfInBounds_toArray, List.set_cons_zero, List.set_cons_succ])
                refine wpList_val (.agg (poA ⟨0, 0, false, 0, pr, x.f4, true, true, x.f2, x.f3, r0, r1, m, (x.v.r : Nat), (x.v.c : Nat), (x.v.b : Nat), (x.v.p : Nat), x.k0, x.k1, x.k2, x.k3⟩)) (by rfl) (kb_all K10.out 4 rfl 62 _ rfl rfl Try.underlying62 rfl (size50)) ?_
                (try simp only [Act.put, List.getElem_toArray, List.getElem_cons_succ, List.getElem_cons_zero, List.setIfInBounds_toArray, List.set_cons_zero, List.set_cons_succ])
                refine wpList_val (.bool true) (by rfl) (by have q := eq_po2 HQ2.out; go_simp) ?_
                (try simp only [Act.put, List.getElem_toArray, List.getElem_cons_succ, List.getElem_cons_zero, List.setIfInBounds_toArray, List.set_cons_zero, List.set_cons_succ])
                refine wpList_val (.bool true) (by rfl) (run_pick_yes (.tmp 98) (.tmp 101) (.const (.bool false)) _ rfl rfl rfl) ?_
                (try simp only [Act.put, List.getElem_toArray, List.getElem_cons_succ, List.getElem_cons_zero, List.setIfInBounds_toArray, List.set_cons_zero, List.set_cons_succ])
                refine wpList_val (.bool true) (by rfl) (by go_simp) ?_
                (try simp only [Act.put, List.getElem_toArray, List.getElem_cons_succ, List.getElem_cons_zero, List.setIfInBounds_toArray, List.set_cons_zero, List.set_cons_succ])
                refine wpList_nil ?_
                go_wp2_with fail
                go_ret
                exact ⟨ret_bool (rfl), K10.out.below⟩
              case true =>
                have HL := Lib.hid hl
                clear hl
                have ht : takesB ⟨0, 0, false, 0, pr, x.f4, true, true, x.f2, x.f3, r0, r1, m, (x.v.r : Nat), (x.v.c : Nat), (x.v.b : Nat), (x.v.p : Nat), x.k0, x.k1, x.k2, x.k3⟩ x.v y = true := by simp [takesB, anewB, HI.out, HBN.out, HL.out]
                have hQ : Q = ⟨0, 0, false, 0, pr, x.f4, true, true, x.f2, x.f3, r0, r1, 2, (y.r : Nat), (y.c : Nat), (y.b : Nat), (y.p : Nat), n0, (IntKind.i64.wrap (3 * h)), x.k2, x.k3⟩ := by rw [HQ.out]; unfold hearP; rw [HO.out, ht]; rfl
                have hK : k = 3 := by rw [HK.out]; unfold hearN; rw [HO.out, ht]; simp [HI.out, he]
                have HQ2 := Lib.hid hQ
                have HK2 := Lib.hid hK
                clear hQ hK
                clear ht
                refine wp_region_lit ?_
                refine wpList_val (.pointer (some ⟨b6x, 12, none⟩)) (by rfl) (by go_simp) ?_
                (try simp only [Act.put, List.getElem_toArray, List.getElem_cons_succ, List.getElem_cons_zero, List.setIfInBounds_toArray, List.set_cons_zero, List.set_cons_succ])
                refine wpList_val (.int .i64 m) (by rfl) (by have q : w9.cell? ⟨b6x, 12, none⟩ = some (.int .i64 m) := K9.out.cell (i := 4) rfl (by rfl); go_simp) ?_
                (try simp only [Act.put, List.getElem_toArray, List.getElem_cons_succ, List.getElem_cons_zero, List.setIfInBounds_toArray, List.set_cons_zero, List.set_cons_succ])
                refine wpList_val (.bool true) (by rfl) (by have q := HI.out; go_simp) ?_
                (try simp only [Act.put, List.getElem_toArray, List.getElem_cons_succ, List.getElem_cons_zero, List.setIfInBounds_toArray, List.set_cons_zero, List.set_cons_succ])
                refine wpList_val (.bool true) (by rfl) (by go_simp) ?_
                (try simp only [Act.put, List.getElem_toArray, List.getElem_cons_succ, List.getElem_cons_zero, List.setIfInBounds_toArray, List.set_cons_zero, List.set_cons_succ])
                refine wpList_nil ?_
                go_upto_region 9 with fail
                refine wp_region_lit ?_
                refine wpList_val (.bool true) (by rfl) (by go_simp) ?_
                (try simp only [Act.put, List.getElem_toArray, List.getElem_cons_succ, List.getElem_cons_zero, List.setIfInBounds_toArray, List.set_cons_zero, List.set_cons_succ])
                refine wpList_val (.bool true) (by rfl) (by go_simp) ?_
                (try simp only [Act.put, List.getElem_toArray, List.getElem_cons_succ, List.getElem_cons_zero, List.setIfInBounds_toArray, List.set_cons_zero, List.set_cons_succ])
                refine wpList_val (.pointer (some ⟨b6y, 2, none⟩)) (by rfl) (by go_simp) ?_
                (try simp only [Act.put, List.getElem_toArray, List.getElem_cons_succ, List.getElem_cons_zero, List.setIfInBounds_toArray, List.set_cons_zero, List.set_cons_succ])
                refine wpList_val (.int .u64 (y.b : Nat)) (by rfl) (by have q : w9.cell? ⟨b6y, 2, none⟩ = some (.int .u64 (y.b : Nat)) := K9.out.cell (i := 5) rfl (by rfl); go_simp) ?_
                (try simp only [Act.put, List.getElem_toArray, List.getElem_cons_succ, List.getElem_cons_zero, List.setIfInBounds_toArray, List.set_cons_zero, List.set_cons_succ])
                refine wpList_val (.pointer (some ⟨b6x, 13, none⟩)) (by rfl) (by go_simp) ?_
                (try simp only [Act.put, List.getElem_toArray, List.getElem_cons_succ, List.getElem_cons_zero, List.setIfInBounds_toArray, List.set_cons_zero, List.set_cons_succ])
                refine wpList_val (.pointer (some ⟨b6x, 15, none⟩)) (by rfl) (by go_simp) ?_
                (try simp only [Act.put, List.getElem_toArray, List.getElem_cons_succ, List.getElem_cons_zero, List.setIfInBounds_toArray, List.set_cons_zero, List.set_cons_succ])
                refine wpList_val (.int .u64 (x.v.b : Nat)) (by rfl) (by have q : w9.cell? ⟨b6x, 15, none⟩ = some (.int .u64 (x.v.b : Nat)) := K9.out.cell (i := 4) rfl (by rfl); go_simp) ?_
                (try simp only [Act.put, List.getElem_toArray, List.getElem_cons_succ, List.getElem_cons_zero, List.setIfInBounds_toArray, List.set_cons_zero, List.set_cons_succ])
                refine wpList_val (.bool false) (by rfl) (by have q := HB.out; go_simp) ?_
                (try simp only [Act.put, List.getElem_toArray, List.getElem_cons_succ, List.getElem_cons_zero, List.setIfInBounds_toArray, List.set_cons_zero, List.set_cons_succ])
                refine wpList_val (.bool false) (by rfl) (run_pick_yes (.tmp 66) (.tmp 72) (.const (.bool false)) _ rfl rfl rfl) ?_
                (try simp only [Act.put, List.getElem_toArray, List.getElem_cons_succ, List.getElem_cons_zero, List.setIfInBounds_toArray, List.set_cons_zero, List.set_cons_succ])
                refine wpList_val (.bool false) (by rfl) (by go_simp) ?_
                (try simp only [Act.put, List.getElem_toArray, List.getElem_cons_succ, List.getElem_cons_zero, List.setIfInBounds_toArray, List.set_cons_zero, List.set_cons_succ])
                refine wpList_skip (by kernel_rfl) ?_
                (try simp only [Act.put, List.getElem_toArray, List.getElem_cons_succ, List.getElem_cons_zero, List.setIfInBounds_toArray, List.set_cons_zero, List.set_cons_succ])
                refine wpList_skip (by kernel_rfl) ?_
                (try simp only [Act.put, List.getElem_toArray, List.getElem_cons_succ, List.getElem_cons_zero, List.setIfInBounds_toArray, List.set_cons_zero, List.set_cons_succ])
                refine wpList_skip (by kernel_rfl) ?_
                (try simp only [Act.put, List.getElem_toArray, List.getElem_cons_succ, List.getElem_cons_zero, List.setIfInBounds_toArray, List.set_cons_zero, List.set_cons_succ])
                refine wpList_skip (by kernel_rfl) ?_
                (try simp only [Act.put, List.getElem_toArray, List.getElem_cons_succ, List.getElem_cons_zero, List.setIfInBounds_toArray, List.set_cons_zero, List.set_cons_succ])
                refine wpList_skip (by kernel_rfl) ?_
                (try simp only [Act.put, List.getElem_toArray, List.getElem_cons_succ, List.getElem_cons_zero, List.setIfInBounds_toArray, List.set_cons_zero, List.set_cons_succ])
                refine wpList_skip (by kernel_rfl) ?_
                (try simp only [Act.put, List.getElem_toArray, List.getElem_cons_succ, List.getElem_cons_zero, List.setIfInBounds_toArray, List.set_cons_zero, List.set_cons_succ])
                refine wpList_val (.bool false) (by rfl) (run_pick_no (.tmp 74) (.tmp 80) (.const (.bool false)) _ rfl rfl rfl) ?_
                (try simp only [Act.put, List.getElem_toArray, List.getElem_cons_succ, List.getElem_cons_zero, List.setIfInBounds_toArray, List.set_cons_zero, List.set_cons_succ])
                refine wpList_val (.bool false) (by rfl) (by go_simp) ?_
                (try simp only [Act.put, List.getElem_toArray, List.getElem_cons_succ, List.getElem_cons_zero, List.setIfInBounds_toArray, List.set_cons_zero, List.set_cons_succ])
                refine wpList_nil ?_
                go_upto_region 10 with fail
                refine wp_region_lit ?_
                refine wpList_val (.bool false) (by rfl) (by go_simp) ?_
                (try simp only [Act.put, List.getElem_toArray, List.getElem_cons_succ, List.getElem_cons_zero, List.setIfInBounds_toArray, List.set_cons_zero, List.set_cons_succ])
                refine wpList_val (.bool true) (by rfl) (by go_simp) ?_
                (try simp only [Act.put, List.getElem_toArray, List.getElem_cons_succ, List.getElem_cons_zero, List.setIfInBounds_toArray, List.set_cons_zero, List.set_cons_succ])
                refine wpList_val (.bool true) (by rfl) (by go_simp) ?_
                (try simp only [Act.put, List.getElem_toArray, List.getElem_cons_succ, List.getElem_cons_zero, List.setIfInBounds_toArray, List.set_cons_zero, List.set_cons_succ])
                refine wpList_val (.agg (vcA y)) (by rfl) (kb_all K9.out 5 rfl 44 _ rfl rfl Try.underlying44 rfl (sizeV)) ?_
                (try simp only [Act.put, List.getElem_toArray, List.getElem_cons_succ, List.getElem_cons_zero, List.setIfInBounds_toArray, List.set_cons_zero, List.set_cons_succ])
                refine wpList_val (.pointer (some ⟨b6x, 13, none⟩)) (by rfl) (by go_simp) ?_
                (try simp only [Act.put, List.getElem_toArray, List.getElem_cons_succ, List.getElem_cons_zero, List.setIfInBounds_toArray, List.set_cons_zero, List.set_cons_succ])
                refine wpList_val (.agg (#[.int .u64 (x.v.r : Nat), .int .u32 (x.v.c : Nat), .int .u64 (x.v.b : Nat), .int .u16 (x.v.p : Nat)])) (by rfl) (kb_part K9.out 4 rfl 44 _ 13 (#[.int .u64 (x.v.r : Nat), .int .u32 (x.v.c : Nat), .int .u64 (x.v.b : Nat), .int .u16 (x.v.p : Nat)]).toList rfl rfl (part_of (by kernel_rfl)) Try.underlying44 rfl (sizeV)) ?_
                (try simp only [Act.put, List.getElem_toArray, List.getElem_cons_succ, List.getElem_cons_zero, List.setIfInBounds_toArray, List.set_cons_zero, List.set_cons_succ])
                refine kb_call K9.out 13 #[.agg (vcA y), .agg (#[.int .u64 (x.v.r : Nat), .int .u32 (x.v.c : Nat), .int .u64 (x.v.b : Nat), .int .u16 (x.v.p : Nat)])] (.bool true) (by rfl) (by go_simp) (by have q := better_any y x.v w9; rw [HL.out] at q; exact q) ?_
                intro w10 hk
                have K10 := Lib.hid (show Kb w [(b1, lpA x, 55), (b2, tvA y, 52), (b3, #[.int .i64 n0, .int .i64 n1, .int .i64 n2], 56), (b5x, cfA ⟨0, n1, h, 0, 0, 0⟩, 58), (b6x, poA ⟨0, 0, false, 0, pr, x.f4, true, true, x.f2, x.f3, r0, r1, m, (x.v.r : Nat), (x.v.c : Nat), (x.v.b : Nat), (x.v.p : Nat), x.k0, x.k1, x.k2, x.k3⟩, 62), (b6y, vcA y, 44), (b8, poA Q, 62)] w10 from hk)
                clear hk
                (try simp only [Act.put, List.getElem_toArray, List.getElem_cons_succ, List.getElem_cons_zero, List.setIfInBounds_toArray, List.set_cons_zero, List.set_cons_succ])
                refine wpList_val (.bool false) (by rfl) (by go_simp) ?_
                (try simp only [Act.put, List.getElem_toArray, List.getElem_cons_succ, List.getElem_cons_zero, List.setIfInBounds_toArray, List.set_cons_zero, List.set_cons_succ])
                refine wpList_val (.bool false) (by rfl) (run_pick_yes (.tmp 84) (.tmp 89) (.const (.bool false)) _ rfl rfl rfl) ?_
                (try simp only [Act.put, List.getElem_toArray, List.getElem_cons_succ, List.getElem_cons_zero, List.setIfInBounds_toArray, List.set_cons_zero, List.set_cons_succ])
                refine wpList_val (.bool false) (by rfl) (by go_simp) ?_
                (try simp only [Act.put, List.getElem_toArray, List.getElem_cons_succ, List.getElem_cons_zero, List.setIfInBounds_toArray, List.set_cons_zero, List.set_cons_succ])
                refine wpList_skip (by kernel_rfl) ?_
                (try simp only [Act.put, List.getElem_toArray, List.getElem_cons_succ, List.getElem_cons_zero, List.setIfInBounds_toArray, List.set_cons_zero, List.set_cons_succ])
                refine wpList_skip (by kernel_rfl) ?_
                (try simp only [Act.put, List.getElem_toArray, List.getElem_cons_succ, List.getElem_cons_zero, List.setIfInBounds_toArray, List.set_cons_zero, List.set_cons_succ])
                refine wpList_skip (by kernel_rfl) ?_
                (try simp only [Act.put, List.getElem_toArray, List.getElem_cons_succ, List.getElem_cons_zero, List.setIfInBounds_toArray, List.set_cons_zero, List.set_cons_succ])
                refine wpList_val (.bool false) (by rfl) (run_pick_no (.tmp 91) (.tmp 94) (.const (.bool false)) _ rfl rfl rfl) ?_
                (try simp only [Act.put, List.getElem_toArray, List.getElem_cons_succ, List.getElem_cons_zero, List.setIfInBounds_toArray, List.set_cons_zero, List.set_cons_succ])
                refine wpList_nil ?_
                go_upto_region 12 with fail
                refine wp_region_lit ?_
                refine wpList_val (.int .i64 3) (by rfl) (by go_simp) ?_
                (try simp only [Act.put, List.getElem_toArray, List.getElem_cons_succ, List.getElem_cons_zero, List.setIfInBounds_toArray, List.set_cons_zero, List.set_cons_succ])
                refine wpList_nil ?_
                go_upto_region 13 with fail
                refine wp_region_lit ?_
                refine wpList_val (.bool true) (by rfl) (by go_simp) ?_
                (try simp only [Act.put, List.getElem_toArray, List.getElem_cons_succ, List.getElem_cons_zero, List.setIfInBounds_toArray, List.set_cons_zero, List.set_cons_succ])
                refine wpList_val (.bool true) (by rfl) (by go_simp) ?_
                (try simp only [Act.put, List.getElem_toArray, List.getElem_cons_succ, List.getElem_cons_zero, List.setIfInBounds_toArray, List.set_cons_zero, List.set_cons_succ])
                refine wpList_val (.pointer (some ⟨b6x, 13, none⟩)) (by rfl) (by go_simp) ?_
                (try simp only [Act.put, List.getElem_toArray, List.getElem_cons_succ, List.getElem_cons_zero, List.setIfInBounds_toArray, List.set_cons_zero, List.set_cons_succ])
                refine wpList_val (.agg (#[.int .u64 (x.v.r : Nat), .int .u32 (x.v.c : Nat), .int .u64 (x.v.b : Nat), .int .u16 (x.v.p : Nat)])) (by rfl) (kb_part K10.out 4 rfl 44 _ 13 (#[.int .u64 (x.v.r : Nat), .int .u32 (x.v.c : Nat), .int .u64 (x.v.b : Nat), .int .u16 (x.v.p : Nat)]).toList rfl rfl (part_of (by kernel_rfl)) Try.underlying44 rfl (sizeV)) ?_
                (try simp only [Act.put, List.getElem_toArray, List.getElem_cons_succ, List.getElem_cons_zero, List.setIfInBounds_toArray, List.set_cons_zero, List.set_cons_succ])
                refine wpList_val (.agg (vcA y)) (by rfl) (kb_all K10.out 5 rfl 44 _ rfl rfl Try.underlying44 rfl (sizeV)) ?_
                (try simp only [Act.put, List.getElem_toArray, List.getElem_cons_succ, List.getElem_cons_zero, List.setIfInBounds_toArray, List.set_cons_zero, List.set_cons_succ])
                refine wpList_val (.bool false) (by rfl) (by have q := fun W => equal_vc x.v y W; rw [he] at q; go_simp) ?_
                (try simp only [Act.put, List.getElem_toArray, List.getElem_cons_succ, List.getElem_cons_zero, List.setIfInBounds_toArray, List.set_cons_zero, List.set_cons_succ])
                refine wpList_val (.bool false) (by rfl) (run_pick_yes (.tmp 104) (.tmp 108) (.const (.bool false)) _ rfl rfl rfl) ?_
                (try simp only [Act.put, List.getElem_toArray, List.getElem_cons_succ, List.getElem_cons_zero, List.setIfInBounds_toArray, List.set_cons_zero, List.set_cons_succ])
                refine wpList_nil ?_
                go_upto_region 15 with fail
                refine wp_region_inv (I := fun L ac w' => ac = HrC3 x y n0 n1 n2 h m pr r0 r1 Q k b1 b2 b3 b5x b6x b6y b8 L ∧ Kb w [(b1, lpA x, 55), (b2, tvA y, 52), (b3, #[.int .i64 n0, .int .i64 n1, .int .i64 n2], 56), (b5x, cfA ⟨0, n1, h, 0, 0, 0⟩, 58), (b6x, poA ⟨0, 0, false, 0, pr, x.f4, true, true, x.f2, x.f3, r0, r1, (bif L 6 then 2 else m), (bif L 8 then (y.r : Nat) else (x.v.r : Nat)), (bif L 8 then (y.c : Nat) else (x.v.c : Nat)), (bif L 8 then (y.b : Nat) else (x.v.b : Nat)), (bif L 8 then (y.p : Nat) else (x.v.p : Nat)), (bif L 10 then n0 else x.k0), (bif L 12 then (IntKind.i64.wrap (3 * h)) else x.k1), x.k2, x.k3⟩, 62), (b6y, vcA y, 44), (b8, poA Q, 62)] w') (by kernel_rfl) (by kernel_rfl) ⟨by kernel_rfl, K10.out.drew⟩ ?_ ?_
                · intro i hi Lx ac w' hI hL haft
                  obtain ⟨rfl, hw⟩ := hI
                  match i, hi with
                  | 0, _ =>
                    have g10 : (HrC3 x y n0 n1 n2 h m pr r0 r1 Q k b1 b2 b3 b5x b6x b6y b8 Lx).tmps[10]?.getD undef = .pointer (some ⟨b6y, 0, none⟩) := by kernel_rfl
                    have e10 : (HrC3 x y n0 n1 n2 h m pr r0 r1 Q k b1 b2 b3 b5x b6x b6y b8 Lx).eval (.tmp 10) = .pointer (some ⟨b6y, 0, none⟩) := by kernel_rfl
                    exact i_val rfl (.agg (vcA y)) w' (by rfl) (kb_all hw 5 rfl 44 _ rfl e10 Try.underlying44 rfl (sizeV)) ⟨by kernel_rfl, hw⟩
                  | 1, _ =>
                    have g7 : (HrC3 x y n0 n1 n2 h m pr r0 r1 Q k b1 b2 b3 b5x b6x b6y b8 Lx).tmps[7]?.getD undef = .int .i64 n0 := by kernel_rfl
                    have e7 : (HrC3 x y n0 n1 n2 h m pr r0 r1 Q k b1 b2 b3 b5x b6x b6y b8 Lx).eval (.tmp 7) = .int .i64 n0 := by kernel_rfl
                    exact i_val rfl (.int .i64 n0) w' (by rfl) (by go_simp) ⟨by kernel_rfl, hw⟩
                  | 2, _ =>
                    have g8 : (HrC3 x y n0 n1 n2 h m pr r0 r1 Q k b1 b2 b3 b5x b6x b6y b8 Lx).tmps[8]?.getD undef = .pointer (some ⟨b5x, 0, none⟩) := by kernel_rfl
                    have e8 : (HrC3 x y n0 n1 n2 h m pr r0 r1 Q k b1 b2 b3 b5x b6x b6y b8 Lx).eval (.tmp 8) = .pointer (some ⟨b5x, 0, none⟩) := by kernel_rfl
                    exact i_val rfl (.pointer (some ⟨b5x, 2, none⟩)) w' (by rfl) (by go_simp) ⟨by kernel_rfl, hw⟩
                  | 3, _ =>
                    have h2 := haft 2 (by decide)
                    have e112 : (HrC3 x y n0 n1 n2 h m pr r0 r1 Q k b1 b2 b3 b5x b6x b6y b8 Lx).eval (.tmp 112) = .pointer (some ⟨b5x, 2, none⟩) := by show (bif Lx 2 then _ else _) = _; rw [h2]; rfl
                    have g112 : (HrC3 x y n0 n1 n2 h m pr r0 r1 Q k b1 b2 b3 b5x b6x b6y b8 Lx).tmps[112]?.getD undef = .pointer (some ⟨b5x, 2, none⟩) := by show (bif Lx 2 then _ else _) = _; rw [h2]; rfl
                    exact i_val rfl (.int .i64 h) w' (by rfl) (by have q : w'.cell? ⟨b5x, 2, none⟩ = some (.int .i64 h) := Kb.cell (i := 3) hw rfl (by rfl); go_simp) ⟨by kernel_rfl, hw⟩
                  | 4, _ =>
                    have h3 := haft 3 (by decide)
                    have e113 : (HrC3 x y n0 n1 n2 h m pr r0 r1 Q k b1 b2 b3 b5x b6x b6y b8 Lx).eval (.tmp 113) = .int .i64 h := by show (bif Lx 3 then _ else _) = _; rw [h3]; rfl
                    have g113 : (HrC3 x y n0 n1 n2 h m pr r0 r1 Q k b1 b2 b3 b5x b6x b6y b8 Lx).tmps[113]?.getD undef = .int .i64 h := by show (bif Lx 3 then _ else _) = _; rw [h3]; rfl
                    exact i_val rfl (.int .i64 (IntKind.i64.wrap (3 * h))) w' (by rfl) (by go_simp) ⟨by kernel_rfl, hw⟩
                  | 5, _ =>
                    have g9 : (HrC3 x y n0 n1 n2 h m pr r0 r1 Q k b1 b2 b3 b5x b6x b6y b8 Lx).tmps[9]?.getD undef = .pointer (some ⟨b6x, 0, none⟩) := by kernel_rfl
                    have e9 : (HrC3 x y n0 n1 n2 h m pr r0 r1 Q k b1 b2 b3 b5x b6x b6y b8 Lx).eval (.tmp 9) = .pointer (some ⟨b6x, 0, none⟩) := by kernel_rfl
                    exact i_val rfl (.pointer (some ⟨b6x, 12, none⟩)) w' (by rfl) (by go_simp) ⟨by kernel_rfl, hw⟩
                  | 6, _ =>
                    have h5 := haft 5 (by decide)
                    have e115 : (HrC3 x y n0 n1 n2 h m pr r0 r1 Q k b1 b2 b3 b5x b6x b6y b8 Lx).eval (.tmp 115) = .pointer (some ⟨b6x, 12, none⟩) := by show (bif Lx 5 then _ else _) = _; rw [h5]; rfl
                    have g115 : (HrC3 x y n0 n1 n2 h m pr r0 r1 Q k b1 b2 b3 b5x b6x b6y b8 Lx).tmps[115]?.getD undef = .pointer (some ⟨b6x, 12, none⟩) := by show (bif Lx 5 then _ else _) = _; rw [h5]; rfl
                    exact i_wp rfl (by rfl) (wp_store_cell 3 _ _ rfl ⟨b6x, 12, none⟩ (.int .i64 2) e115 rfl (kb_run_set hw (i := 4) rfl 3 12 (.int .i64 (bif Lx 6 then 2 else m)) (.int .i64 2) (by rfl) (fun W h1 h2 => by go_simp)) ⟨by kernel_rfl, cast_blk (Kb.set (i := 4) hw rfl 12 (.int .i64 2)) (by rfl)⟩)
                  | 7, _ =>
                    have g9 : (HrC3 x y n0 n1 n2 h m pr r0 r1 Q k b1 b2 b3 b5x b6x b6y b8 Lx).tmps[9]?.getD undef = .pointer (some ⟨b6x, 0, none⟩) := by kernel_rfl
                    have e9 : (HrC3 x y n0 n1 n2 h m pr r0 r1 Q k b1 b2 b3 b5x b6x b6y b8 Lx).eval (.tmp 9) = .pointer (some ⟨b6x, 0, none⟩) := by kernel_rfl
                    exact i_val rfl (.pointer (some ⟨b6x, 13, none⟩)) w' (by rfl) (by go_simp) ⟨by kernel_rfl, hw⟩
                  | 8, _ =>
                    have h0 := haft 0 (by decide)
                    have e110 : (HrC3 x y n0 n1 n2 h m pr r0 r1 Q k b1 b2 b3 b5x b6x b6y b8 Lx).eval (.tmp 110) = .agg (vcA y) := by show (bif Lx 0 then _ else _) = _; rw [h0]; rfl
                    have g110 : (HrC3 x y n0 n1 n2 h m pr r0 r1 Q k b1 b2 b3 b5x b6x b6y b8 Lx).tmps[110]?.getD undef = .agg (vcA y) := by show (bif Lx 0 then _ else _) = _; rw [h0]; rfl
                    have h7 := haft 7 (by decide)
                    have e116 : (HrC3 x y n0 n1 n2 h m pr r0 r1 Q k b1 b2 b3 b5x b6x b6y b8 Lx).eval (.tmp 116) = .pointer (some ⟨b6x, 13, none⟩) := by show (bif Lx 7 then _ else _) = _; rw [h7]; rfl
                    have g116 : (HrC3 x y n0 n1 n2 h m pr r0 r1 Q k b1 b2 b3 b5x b6x b6y b8 Lx).tmps[116]?.getD undef = .pointer (some ⟨b6x, 13, none⟩) := by show (bif Lx 7 then _ else _) = _; rw [h7]; rfl
                    exact i_wp rfl (by rfl) (wp_store_mid 44 _ _ rfl b6x 13 (vcA y) e116 e110 ((Kb.at (i := 4) hw rfl).thereN 13 4 (Nat.le_of_ble_eq_true (by kernel_rfl))) (sizeV) (by kernel_rfl) ⟨by kernel_rfl, cast_blk (Kb.mid (i := 4) hw rfl 13 (vcA y).toList) (by rfl)⟩)
                  | 9, _ =>
                    have g9 : (HrC3 x y n0 n1 n2 h m pr r0 r1 Q k b1 b2 b3 b5x b6x b6y b8 Lx).tmps[9]?.getD undef = .pointer (some ⟨b6x, 0, none⟩) := by kernel_rfl
                    have e9 : (HrC3 x y n0 n1 n2 h m pr r0 r1 Q k b1 b2 b3 b5x b6x b6y b8 Lx).eval (.tmp 9) = .pointer (some ⟨b6x, 0, none⟩) := by kernel_rfl
                    exact i_val rfl (.pointer (some ⟨b6x, 17, none⟩)) w' (by rfl) (by go_simp) ⟨by kernel_rfl, hw⟩
                  | 10, _ =>
                    have h1 := haft 1 (by decide)
                    have e111 : (HrC3 x y n0 n1 n2 h m pr r0 r1 Q k b1 b2 b3 b5x b6x b6y b8 Lx).eval (.tmp 111) = .int .i64 n0 := by show (bif Lx 1 then _ else _) = _; rw [h1]; rfl
                    have g111 : (HrC3 x y n0 n1 n2 h m pr r0 r1 Q k b1 b2 b3 b5x b6x b6y b8 Lx).tmps[111]?.getD undef = .int .i64 n0 := by show (bif Lx 1 then _ else _) = _; rw [h1]; rfl
                    have h9 := haft 9 (by decide)
                    have e117 : (HrC3 x y n0 n1 n2 h m pr r0 r1 Q k b1 b2 b3 b5x b6x b6y b8 Lx).eval (.tmp 117) = .pointer (some ⟨b6x, 17, none⟩) := by show (bif Lx 9 then _ else _) = _; rw [h9]; rfl
                    have g117 : (HrC3 x y n0 n1 n2 h m pr r0 r1 Q k b1 b2 b3 b5x b6x b6y b8 Lx).tmps[117]?.getD undef = .pointer (some ⟨b6x, 17, none⟩) := by show (bif Lx 9 then _ else _) = _; rw [h9]; rfl
                    exact i_wp rfl (by rfl) (wp_store_cell 3 _ _ rfl ⟨b6x, 17, none⟩ (.int .i64 n0) e117 e111 (kb_run_set hw (i := 4) rfl 3 17 (.int .i64 (bif Lx 10 then n0 else x.k0)) (.int .i64 n0) (by rfl) (fun W h1 h2 => by go_simp)) ⟨by kernel_rfl, cast_blk (Kb.set (i := 4) hw rfl 17 (.int .i64 n0)) (by rfl)⟩)
                  | 11, _ =>
                    have g9 : (HrC3 x y n0 n1 n2 h m pr r0 r1 Q k b1 b2 b3 b5x b6x b6y b8 Lx).tmps[9]?.getD undef = .pointer (some ⟨b6x, 0, none⟩) := by kernel_rfl
                    have e9 : (HrC3 x y n0 n1 n2 h m pr r0 r1 Q k b1 b2 b3 b5x b6x b6y b8 Lx).eval (.tmp 9) = .pointer (some ⟨b6x, 0, none⟩) := by kernel_rfl
                    exact i_val rfl (.pointer (some ⟨b6x, 18, none⟩)) w' (by rfl) (by go_simp) ⟨by kernel_rfl, hw⟩
                  | 12, _ =>
                    have h4 := haft 4 (by decide)
                    have e114 : (HrC3 x y n0 n1 n2 h m pr r0 r1 Q k b1 b2 b3 b5x b6x b6y b8 Lx).eval (.tmp 114) = .int .i64 (IntKind.i64.wrap (3 * h)) := by show (bif Lx 4 then _ else _) = _; rw [h4]; rfl
                    have g114 : (HrC3 x y n0 n1 n2 h m pr r0 r1 Q k b1 b2 b3 b5x b6x b6y b8 Lx).tmps[114]?.getD undef = .int .i64 (IntKind.i64.wrap (3 * h)) := by show (bif Lx 4 then _ else _) = _; rw [h4]; rfl
                    have h11 := haft 11 (by decide)
                    have e118 : (HrC3 x y n0 n1 n2 h m pr r0 r1 Q k b1 b2 b3 b5x b6x b6y b8 Lx).eval (.tmp 118) = .pointer (some ⟨b6x, 18, none⟩) := by show (bif Lx 11 then _ else _) = _; rw [h11]; rfl
                    have g118 : (HrC3 x y n0 n1 n2 h m pr r0 r1 Q k b1 b2 b3 b5x b6x b6y b8 Lx).tmps[118]?.getD undef = .pointer (some ⟨b6x, 18, none⟩) := by show (bif Lx 11 then _ else _) = _; rw [h11]; rfl
                    exact i_wp rfl (by rfl) (wp_store_cell 3 _ _ rfl ⟨b6x, 18, none⟩ (.int .i64 (IntKind.i64.wrap (3 * h))) e118 e114 (kb_run_set hw (i := 4) rfl 3 18 (.int .i64 (bif Lx 12 then (IntKind.i64.wrap (3 * h)) else x.k1)) (.int .i64 (IntKind.i64.wrap (3 * h))) (by rfl) (fun W h1 h2 => by go_simp)) ⟨by kernel_rfl, cast_blk (Kb.set (i := 4) hw rfl 18 (.int .i64 (IntKind.i64.wrap (3 * h)))) (by rfl)⟩)
                  | k + 13, h =>
                    exfalso
                    have h2 : k + 13 < 13 := h
                    omega
                intro Lx ac w11 hI hall
                obtain ⟨rfl, hw⟩ := hI
                have hfr : HrC3 x y n0 n1 n2 h m pr r0 r1 Q k b1 b2 b3 b5x b6x b6y b8 Lx = { tmps := #[.agg (lpA x), .agg (tvA y), .agg (#[.int .i64 n0, .int .i64 n1, .int .i64 n2]), .pointer (some ⟨b1, 0, none⟩), .pointer (some ⟨b2, 0, none⟩), .pointer (some ⟨b3, 0, none⟩), .bool false, .int .i64 n0, .pointer (some ⟨b5x, 0, none⟩), .pointer (some ⟨b6x, 0, none⟩), .pointer (some ⟨b6y, 0, none⟩), .pointer (some ⟨b8, 0, none⟩), .int .i64 k, .bool true, .bool false, .int .i64 3, .bool true, .bool false, .pointer (some ⟨b3, 0, none⟩), .int .i64 n0, .pointer (some ⟨b3, 1, none⟩), .int .i64 n1, .pointer (some ⟨b3, 2, none⟩), .int .i64 n2, .int .i64 h, .agg (cfA ⟨0, n1, h, 0, 0, 0⟩), .agg (lpA x), .agg (poA ⟨0, 0, false, 0, pr, x.f4, true, true, x.f2, x.f3, r0, r1, m, (x.v.r : Nat), (x.v.c : Nat), (x.v.b : Nat), (x.v.p : Nat), x.k0, x.k1, x.k2, x.k3⟩), .agg (tvA y), .agg (vcA y), .tuple #[.agg (poA Q), .int .i64 k], .agg (poA ⟨0, 0, false, 0, pr, x.f4, true, true, x.f2, x.f3, r0, r1, m, (x.v.r : Nat), (x.v.c : Nat), (x.v.b : Nat), (x.v.p : Nat), x.k0, x.k1, x.k2, x.k3⟩), .agg (vcA y), .int .i64 n0, .agg (cfA ⟨0, n1, h, 0, 0, 0⟩), .tuple #[.agg (poA Q), .int .i64 k], .agg (poA Q), .int .i64 k, .pointer (some ⟨b6x, 7, none⟩), .bool true, .bool true, .pointer (some ⟨b6x, 6, none⟩), .bool true, .bool true, .bool false, .bool false, .int .i64 n0, .bool false, .bool false, .bool false, .int .i64 n0, .pointer (some ⟨b5x, 1, none⟩), .int .i64 n1, .bool false, .bool false, undef, undef, undef, undef, undef, undef, undef, .pointer (some ⟨b6x, 12, none⟩), .int .i64 m, .bool true, .bool true, .bool true, .pointer (some ⟨b6y, 2, none⟩), .int .u64 (y.b : Nat), .pointer (some ⟨b6x, 13, none⟩), .pointer (some ⟨b6x, 15, none⟩), .int .u64 (x.v.b : Nat), .bool false, .bool false, .bool false, undef, undef, undef, undef, undef, undef, .bool false, .bool false, .bool true, .bool true, .agg (vcA y), .pointer (some ⟨b6x, 13, none⟩), .agg (#[.int .u64 (x.v.r : Nat), .int .u32 (x.v.c : Nat), .int .u64 (x.v.b : Nat), .int .u16 (x.v.p : Nat)]), .bool true, .bool false, .bool false, .bool false, undef, undef, undef, .bool false, undef, undef, undef, undef, undef, undef, undef, .bool true, .bool true, .pointer (some ⟨b6x, 13, none⟩), .agg (#[.int .u64 (x.v.r : Nat), .int .u32 (x.v.c : Nat), .int .u64 (x.v.b : Nat), .int .u16 (x.v.p : Nat)]), .agg (vcA y), .bool false, .bool false, .agg (vcA y), .int .i64 n0, .pointer (some ⟨b5x, 2, none⟩), .int .i64 h, .int .i64 (IntKind.i64.wrap (3 * h)), .pointer (some ⟨b6x, 12, none⟩), .pointer (some ⟨b6x, 13, none⟩), .pointer (some ⟨b6x, 17, none⟩), .pointer (some ⟨b6x, 18, none⟩), undef, undef, undef, undef, undef, undef, undef, undef], defers := [] } := by unfold HrC3; simp only [hall 0 (by decide), hall 1 (by decide), hall 2 (by decide), hall 3 (by decide), hall 4 (by decide), hall 5 (by decide), hall 7 (by decide), hall 9 (by decide), hall 11 (by decide), cond_true]
                rw [hfr]
                clear hfr
                have hL6 := hall 6 (by decide)
                have hL8 := hall 8 (by decide)
                have hL10 := hall 10 (by decide)
                have hL12 := hall 12 (by decide)
                simp only [hL6, hL8, hL10, hL12, cond_true] at hw
                have K11 := Lib.hid (show Kb w [(b1, lpA x, 55), (b2, tvA y, 52), (b3, #[.int .i64 n0, .int .i64 n1, .int .i64 n2], 56), (b5x, cfA ⟨0, n1, h, 0, 0, 0⟩, 58), (b6x, poA ⟨0, 0, false, 0, pr, x.f4, true, true, x.f2, x.f3, r0, r1, 2, (y.r : Nat), (y.c : Nat), (y.b : Nat), (y.p : Nat), n0, (IntKind.i64.wrap (3 * h)), x.k2, x.k3⟩, 62), (b6y, vcA y, 44), (b8, poA Q, 62)] w11 from hw)
                clear hw hall hL6 hL8 hL10 hL12
                go_upto_region 16 with fail
                refine wp_region_lit ?_
                refine wpList_val (.int .i64 k) (by rfl) (by go_simp) ?_
                (try simp only [Act.put, List.getElem_toArray, List.getElem_cons_succ, List.getElem_cons_zero, List.setIfInBounds_toArray, List.set_cons_zero, List.set_cons_succ])
                refine wpList_val (.int .i64 3) (by rfl) (by go_simp) ?_
                (try simp only [Act.put, List.getElem_toArray, List.getElem_cons_succ, List.getElem_cons_zero, List.setIfInBounds_toArray, List.set_cons_zero, List.set_cons_succ])
                refine wpList_val (.bool true) (by rfl) (by have q := HK2.out; go_simp) ?_
                (try simp only [Act.put, List.getElem_toArray, List.getElem_cons_succ, List.getElem_cons_zero, List.setIfInBounds_toArray, List.set_cons_zero, List.set_cons_succ])
                refine wpList_val (.bool true) (by rfl) (by go_simp) ?_
                (try simp only [Act.put, List.getElem_toArray, List.getElem_cons_succ, List.getElem_cons_zero, List.setIfInBounds_toArray, List.set_cons_zero, List.set_cons_succ])
                refine wpList_val (.agg (poA Q)) (by rfl) (kb_all K11.out 6 rfl 62 _ rfl rfl Try.underlying62 rfl (size50)) ?_
                (try simp only [Act.put, List.getElem_toArray, List.getElem_cons_succ, List.getElem_cons_zero, List.setIfInBounds_toArray, List.set_cons_zero, List.set_cons_succ])
                refine wpList_val (.agg (poA ⟨0, 0, false, 0, pr, x.f4, true, true, x.f2, x.f3, r0, r1, 2, (y.r : Nat), (y.c : Nat), (y.b : Nat), (y.p : Nat), n0, (IntKind.i64.wrap (3 * h)), x.k2, x.k3⟩)) (by rfl) (kb_all K11.out 4 rfl 62 _ rfl rfl Try.underlying62 rfl (size50)) ?_
                (try simp only [Act.put, List.getElem_toArray, List.getElem_cons_succ, List.getElem_cons_zero, List.setIfInBounds_toArray, List.set_cons_zero, List.set_cons_succ])
                refine wpList_val (.bool true) (by rfl) (by have q := eq_po2 HQ2.out; go_simp) ?_
                (try simp only [Act.put, List.getElem_toArray, List.getElem_cons_succ, List.getElem_cons_zero, List.setIfInBounds_toArray, List.set_cons_zero, List.set_cons_succ])
                refine wpList_val (.bool true) (by rfl) (run_pick_yes (.tmp 122) (.tmp 125) (.const (.bool false)) _ rfl rfl rfl) ?_
                (try simp only [Act.put, List.getElem_toArray, List.getElem_cons_succ, List.getElem_cons_zero, List.setIfInBounds_toArray, List.set_cons_zero, List.set_cons_succ])
                refine wpList_val (.bool true) (by rfl) (by go_simp) ?_
                (try simp only [Act.put, List.getElem_toArray, List.getElem_cons_succ, List.getElem_cons_zero, List.setIfInBounds_toArray, List.set_cons_zero, List.set_cons_succ])
                refine wpList_nil ?_
                go_wp2_with fail
                go_ret
                exact ⟨ret_bool (rfl), K11.out.below⟩
            case pos =>
              have hbn : y.b = x.v.b := by omega
              have HB := Lib.hid hb
              clear hb
              have HBN := Lib.hid hbn
              clear hbn
              by_cases hp : (y.p : Int) = (x.v.p : Int)
              case neg =>
                have hpn : ¬ y.p = x.v.p := by omega
                have he : eqV x.v y = false := by simp [eqV]; omega
                have HP := Lib.hid hp
                clear hp
                have HPN := Lib.hid hpn
                clear hpn
                cases hl : lessV y x.v
                case false =>
                  have HL := Lib.hid hl
                  clear hl
                  have ht : takesB ⟨0, 0, false, 0, pr, x.f4, true, true, x.f2, x.f3, r0, r1, m, (x.v.r : Nat), (x.v.c : Nat), (x.v.b : Nat), (x.v.p : Nat), x.k0, x.k1, x.k2, x.k3⟩ x.v y = false := by simp [takesB, anewB, HI.out, HBN.out, HPN.out, HL.out, HM0.out]
                  have hQ : Q = ⟨0, 0, false, 0, pr, x.f4, true, true, x.f2, x.f3, r0, r1, m, (x.v.r : Nat), (x.v.c : Nat), (x.v.b : Nat), (x.v.p : Nat), x.k0, x.k1, x.k2, x.k3⟩ := by rw [HQ.out]; unfold hearP; rw [HO.out, ht]; rfl
                  have hK : k = 1 := by rw [HK.out]; unfold hearN; rw [HO.out, ht]; rfl
                  have HQ2 := Lib.hid hQ
                  have HK2 := Lib.hid hK
                  clear hQ hK
                  clear ht
                  refine wp_region_lit ?_
                  refine wpList_val (.pointer (some ⟨b6x, 12, none⟩)) (by rfl) (by go_simp) ?_
                  (try simp only [Act.put, List.getElem_toArray, List.getElem_cons_succ, List.getElem_cons_zero, List.setIfInBounds_toArray, List.set_cons_zero, List.set_cons_succ])
                  refine wpList_val (.int .i64 m) (by rfl) (by have q : w9.cell? ⟨b6x, 12, none⟩ = some (.int .i64 m) := K9.out.cell (i := 4) rfl (by rfl); go_simp) ?_
                  (try simp only [Act.put, List.getElem_toArray, List.getElem_cons_succ, List.getElem_cons_zero, List.setIfInBounds_toArray, List.set_cons_zero, List.set_cons_succ])
                  refine wpList_val (.bool true) (by rfl) (by have q := HI.out; go_simp) ?_
                  (try simp only [Act.put, List.getElem_toArray, List.getElem_cons_succ, List.getElem_cons_zero, List.setIfInBounds_toArray, List.set_cons_zero, List.set_cons_succ])
                  refine wpList_val (.bool true) (by rfl) (by go_simp) ?_
                  (try simp only [Act.put, List.getElem_toArray, List.getElem_cons_succ, List.getElem_cons_zero, List.setIfInBounds_toArray, List.set_cons_zero, List.set_cons_succ])
                  refine wpList_nil ?_
                  go_upto_region 9 with fail
                  refine wp_region_lit ?_
                  refine wpList_val (.bool true) (by rfl) (by go_simp) ?_
                  (try simp only [Act.put, List.getElem_toArray, List.getElem_cons_succ, List.getElem_cons_zero, List.setIfInBounds_toArray, List.set_cons_zero, List.set_cons_succ])
                  refine wpList_val (.bool true) (by rfl) (by go_simp) ?_
                  (try simp only [Act.put, List.getElem_toArray, List.getElem_cons_succ, List.getElem_cons_zero, List.setIfInBounds_toArray, List.set_cons_zero, List.set_cons_succ])
                  refine wpList_val (.pointer (some ⟨b6y, 2, none⟩)) (by rfl) (by go_simp) ?_
                  (try simp only [Act.put, List.getElem_toArray, List.getElem_cons_succ, List.getElem_cons_zero, List.setIfInBounds_toArray, List.set_cons_zero, List.set_cons_succ])
                  refine wpList_val (.int .u64 (y.b : Nat)) (by rfl) (by have q : w9.cell? ⟨b6y, 2, none⟩ = some (.int .u64 (y.b : Nat)) := K9.out.cell (i := 5) rfl (by rfl); go_simp) ?_
                  (try simp only [Act.put, List.getElem_toArray, List.getElem_cons_succ, List.getElem_cons_zero, List.setIfInBounds_toArray, List.set_cons_zero, List.set_cons_succ])
                  refine wpList_val (.pointer (some ⟨b6x, 13, none⟩)) (by rfl) (by go_simp) ?_
                  (try simp only [Act.put, List.getElem_toArray, List.getElem_cons_succ, List.getElem_cons_zero, List.setIfInBounds_toArray, List.set_cons_zero, List.set_cons_succ])
                  refine wpList_val (.pointer (some ⟨b6x, 15, none⟩)) (by rfl) (by go_simp) ?_
                  (try simp only [Act.put, List.getElem_toArray, List.getElem_cons_succ, List.getElem_cons_zero, List.setIfInBounds_toArray, List.set_cons_zero, List.set_cons_succ])
                  refine wpList_val (.int .u64 (x.v.b : Nat)) (by rfl) (by have q : w9.cell? ⟨b6x, 15, none⟩ = some (.int .u64 (x.v.b : Nat)) := K9.out.cell (i := 4) rfl (by rfl); go_simp) ?_
                  (try simp only [Act.put, List.getElem_toArray, List.getElem_cons_succ, List.getElem_cons_zero, List.setIfInBounds_toArray, List.set_cons_zero, List.set_cons_succ])
                  refine wpList_val (.bool true) (by rfl) (by have q := HB.out; go_simp) ?_
                  (try simp only [Act.put, List.getElem_toArray, List.getElem_cons_succ, List.getElem_cons_zero, List.setIfInBounds_toArray, List.set_cons_zero, List.set_cons_succ])
                  refine wpList_val (.bool true) (by rfl) (run_pick_yes (.tmp 66) (.tmp 72) (.const (.bool false)) _ rfl rfl rfl) ?_
                  (try simp only [Act.put, List.getElem_toArray, List.getElem_cons_succ, List.getElem_cons_zero, List.setIfInBounds_toArray, List.set_cons_zero, List.set_cons_succ])
                  refine wpList_val (.bool true) (by rfl) (by go_simp) ?_
                  (try simp only [Act.put, List.getElem_toArray, List.getElem_cons_succ, List.getElem_cons_zero, List.setIfInBounds_toArray, List.set_cons_zero, List.set_cons_succ])
                  refine wpList_val (.pointer (some ⟨b6y, 3, none⟩)) (by rfl) (by go_simp) ?_
                  (try simp only [Act.put, List.getElem_toArray, List.getElem_cons_succ, List.getElem_cons_zero, List.setIfInBounds_toArray, List.set_cons_zero, List.set_cons_succ])
                  refine wpList_val (.int .u16 (y.p : Nat)) (by rfl) (by have q : w9.cell? ⟨b6y, 3, none⟩ = some (.int .u16 (y.p : Nat)) := K9.out.cell (i := 5) rfl (by rfl); go_simp) ?_
                  (try simp only [Act.put, List.getElem_toArray, List.getElem_cons_succ, List.getElem_cons_zero, List.setIfInBounds_toArray, List.set_cons_zero, List.set_cons_succ])
                  refine wpList_val (.pointer (some ⟨b6x, 13, none⟩)) (by rfl) (by go_simp) ?_
                  (try simp only [Act.put, List.getElem_toArray, List.getElem_cons_succ, List.getElem_cons_zero, List.setIfInBounds_toArray, List.set_cons_zero, List.set_cons_succ])
                  refine wpList_val (.pointer (some ⟨b6x, 16, none⟩)) (by rfl) (by go_simp) ?_
                  (try simp only [Act.put, List.getElem_toArray, List.getElem_cons_succ, List.getElem_cons_zero, List.setIfInBounds_toArray, List.set_cons_zero, List.set_cons_succ])
                  refine wpList_val (.int .u16 (x.v.p : Nat)) (by rfl) (by have q : w9.cell? ⟨b6x, 16, none⟩ = some (.int .u16 (x.v.p : Nat)) := K9.out.cell (i := 4) rfl (by rfl); go_simp) ?_
                  (try simp only [Act.put, List.getElem_toArray, List.getElem_cons_succ, List.getElem_cons_zero, List.setIfInBounds_toArray, List.set_cons_zero, List.set_cons_succ])
                  refine wpList_val (.bool false) (by rfl) (by have q := HP.out; go_simp) ?_
                  (try simp only [Act.put, List.getElem_toArray, List.getElem_cons_succ, List.getElem_cons_zero, List.setIfInBounds_toArray, List.set_cons_zero, List.set_cons_succ])
                  refine wpList_val (.bool false) (by rfl) (run_pick_yes (.tmp 74) (.tmp 80) (.const (.bool false)) _ rfl rfl rfl) ?_
                  (try simp only [Act.put, List.getElem_toArray, List.getElem_cons_succ, List.getElem_cons_zero, List.setIfInBounds_toArray, List.set_cons_zero, List.set_cons_succ])
                  refine wpList_val (.bool false) (by rfl) (by go_simp) ?_
                  (try simp only [Act.put, List.getElem_toArray, List.getElem_cons_succ, List.getElem_cons_zero, List.setIfInBounds_toArray, List.set_cons_zero, List.set_cons_succ])
                  refine wpList_nil ?_
                  go_upto_region 10 with fail
                  refine wp_region_lit ?_
                  refine wpList_val (.bool false) (by rfl) (by go_simp) ?_
                  (try simp only [Act.put, List.getElem_toArray, List.getElem_cons_succ, List.getElem_cons_zero, List.setIfInBounds_toArray, List.set_cons_zero, List.set_cons_succ])
                  refine wpList_val (.bool true) (by rfl) (by go_simp) ?_
                  (try simp only [Act.put, List.getElem_toArray, List.getElem_cons_succ, List.getElem_cons_zero, List.setIfInBounds_toArray, List.set_cons_zero, List.set_cons_succ])
                  refine wpList_val (.bool true) (by rfl) (by go_simp) ?_
                  (try simp only [Act.put, List.getElem_toArray, List.getElem_cons_succ, List.getElem_cons_zero, List.setIfInBounds_toArray, List.set_cons_zero, List.set_cons_succ])
                  refine wpList_val (.agg (vcA y)) (by rfl) (kb_all K9.out 5 rfl 44 _ rfl rfl Try.underlying44 rfl (sizeV)) ?_
                  (try simp only [Act.put, List.getElem_toArray, List.getElem_cons_succ, List.getElem_cons_zero, List.setIfInBounds_toArray, List.set_cons_zero, List.set_cons_succ])
                  refine wpList_val (.pointer (some ⟨b6x, 13, none⟩)) (by rfl) (by go_simp) ?_
                  (try simp only [Act.put, List.getElem_toArray, List.getElem_cons_succ, List.getElem_cons_zero, List.setIfInBounds_toArray, List.set_cons_zero, List.set_cons_succ])
                  refine wpList_val (.agg (#[.int .u64 (x.v.r : Nat), .int .u32 (x.v.c : Nat), .int .u64 (x.v.b : Nat), .int .u16 (x.v.p : Nat)])) (by rfl) (kb_part K9.out 4 rfl 44 _ 13 (#[.int .u64 (x.v.r : Nat), .int .u32 (x.v.c : Nat), .int .u64 (x.v.b : Nat), .int .u16 (x.v.p : Nat)]).toList rfl rfl (part_of (by kernel_rfl)) Try.underlying44 rfl (sizeV)) ?_
                  (try simp only [Act.put, List.getElem_toArray, List.getElem_cons_succ, List.getElem_cons_zero, List.setIfInBounds_toArray, List.set_cons_zero, List.set_cons_succ])
                  refine kb_call K9.out 13 #[.agg (vcA y), .agg (#[.int .u64 (x.v.r : Nat), .int .u32 (x.v.c : Nat), .int .u64 (x.v.b : Nat), .int .u16 (x.v.p : Nat)])] (.bool false) (by rfl) (by go_simp) (by have q := better_any y x.v w9; rw [HL.out] at q; exact q) ?_
                  intro w10 hk
                  have K10 := Lib.hid (show Kb w [(b1, lpA x, 55), (b2, tvA y, 52), (b3, #[.int .i64 n0, .int .i64 n1, .int .i64 n2], 56), (b5x, cfA ⟨0, n1, h, 0, 0, 0⟩, 58), (b6x, poA ⟨0, 0, false, 0, pr, x.f4, true, true, x.f2, x.f3, r0, r1, m, (x.v.r : Nat), (x.v.c : Nat), (x.v.b : Nat), (x.v.p : Nat), x.k0, x.k1, x.k2, x.k3⟩, 62), (b6y, vcA y, 44), (b8, poA Q, 62)] w10 from hk)
                  clear hk
                  (try simp only [Act.put, List.getElem_toArray, List.getElem_cons_succ, List.getElem_cons_zero, List.setIfInBounds_toArray, List.set_cons_zero, List.set_cons_succ])
                  refine wpList_val (.bool true) (by rfl) (by go_simp) ?_
                  (try simp only [Act.put, List.getElem_toArray, List.getElem_cons_succ, List.getElem_cons_zero, List.setIfInBounds_toArray, List.set_cons_zero, List.set_cons_succ])
                  refine wpList_val (.bool true) (by rfl) (run_pick_yes (.tmp 84) (.tmp 89) (.const (.bool false)) _ rfl rfl rfl) ?_
                  (try simp only [Act.put, List.getElem_toArray, List.getElem_cons_succ, List.getElem_cons_zero, List.setIfInBounds_toArray, List.set_cons_zero, List.set_cons_succ])
                  refine wpList_val (.bool true) (by rfl) (by go_simp) ?_
                  (try simp only [Act.put, List.getElem_toArray, List.getElem_cons_succ, List.getElem_cons_zero, List.setIfInBounds_toArray, List.set_cons_zero, List.set_cons_succ])
                  refine wpList_val (.pointer (some ⟨b6x, 12, none⟩)) (by rfl) (by go_simp) ?_
                  (try simp only [Act.put, List.getElem_toArray, List.getElem_cons_succ, List.getElem_cons_zero, List.setIfInBounds_toArray, List.set_cons_zero, List.set_cons_succ])
                  refine wpList_val (.int .i64 m) (by rfl) (by have q : w10.cell? ⟨b6x, 12, none⟩ = some (.int .i64 m) := K10.out.cell (i := 4) rfl (by rfl); go_simp) ?_
                  (try simp only [Act.put, List.getElem_toArray, List.getElem_cons_succ, List.getElem_cons_zero, List.setIfInBounds_toArray, List.set_cons_zero, List.set_cons_succ])
                  refine wpList_val (.bool true) (by rfl) (by have q := HM0.out; go_simp) ?_
                  (try simp only [Act.put, List.getElem_toArray, List.getElem_cons_succ, List.getElem_cons_zero, List.setIfInBounds_toArray, List.set_cons_zero, List.set_cons_succ])
                  refine wpList_val (.bool true) (by rfl) (run_pick_yes (.tmp 91) (.tmp 94) (.const (.bool false)) _ rfl rfl rfl) ?_
                  (try simp only [Act.put, List.getElem_toArray, List.getElem_cons_succ, List.getElem_cons_zero, List.setIfInBounds_toArray, List.set_cons_zero, List.set_cons_succ])
                  refine wpList_nil ?_
                  go_upto_region 11 with fail
                  refine wp_region_lit ?_
                  refine wpList_val (.int .i64 k) (by rfl) (by go_simp) ?_
                  (try simp only [Act.put, List.getElem_toArray, List.getElem_cons_succ, List.getElem_cons_zero, List.setIfInBounds_toArray, List.set_cons_zero, List.set_cons_succ])
                  refine wpList_val (.bool true) (by rfl) (by have q := HK2.out; go_simp) ?_
                  (try simp only [Act.put, List.getElem_toArray, List.getElem_cons_succ, List.getElem_cons_zero, List.setIfInBounds_toArray, List.set_cons_zero, List.set_cons_succ])
                  refine wpList_val (.bool true) (by rfl) (by go_simp) ?_
                  (try simp only [Act.put, List.getElem_toArray, List.getElem_cons_succ, List.getElem_cons_zero, List.setIfInBounds_toArray, List.set_cons_zero, List.set_cons_succ])
                  refine wpList_val (.agg (poA Q)) (by rfl) (kb_all K10.out 6 rfl 62 _ rfl rfl Try.underlying62 rfl (size50)) ?_
                  (try simp only [Act.put, List.getElem_toArray, List.getElem_cons_succ, List.getElem_cons_zero, List.setIfInBounds_toArray, List.set_cons_zero, List.set_cons_succ])
                  refine wpList_val (.agg (poA ⟨0, 0, false, 0, pr, x.f4, true, true, x.f2, x.f3, r0, r1, m, (x.v.r : Nat), (x.v.c : Nat), (x.v.b : Nat), (x.v.p : Nat), x.k0, x.k1, x.k2, x.k3⟩)) (by rfl) (kb_all K10.out 4 rfl 62 _ rfl rfl Try.underlying62 rfl (size50)) ?_
                  (try simp only [Act.put, List.getElem_toArray, List.getElem_cons_succ, List.getElem_cons_zero, List.setIfInBounds_toArray, List.set_cons_zero, List.set_cons_succ])
                  refine wpList_val (.bool true) (by rfl) (by have q := eq_po2 HQ2.out; go_simp) ?_
                  (try simp only [Act.put, List.getElem_toArray, List.getElem_cons_succ, List.getElem_cons_zero, List.setIfInBounds_toArray, List.set_cons_zero, List.set_cons_succ])
                  refine wpList_val (.bool true) (by rfl) (run_pick_yes (.tmp 98) (.tmp 101) (.const (.bool false)) _ rfl rfl rfl) ?_
                  (try simp only [Act.put, List.getElem_toArray, List.getElem_cons_succ, List.getElem_cons_zero, List.setIfInBounds_toArray, List.set_cons_zero, List.set_cons_succ])
                  refine wpList_val (.bool true) (by rfl) (by go_simp) ?_
                  (try simp only [Act.put, List.getElem_toArray, List.getElem_cons_succ, List.getElem_cons_zero, List.setIfInBounds_toArray, List.set_cons_zero, List.set_cons_succ])
                  refine wpList_nil ?_
                  go_wp2_with fail
                  go_ret
                  exact ⟨ret_bool (rfl), K10.out.below⟩
                case true =>
                  have HL := Lib.hid hl
                  clear hl
                  have ht : takesB ⟨0, 0, false, 0, pr, x.f4, true, true, x.f2, x.f3, r0, r1, m, (x.v.r : Nat), (x.v.c : Nat), (x.v.b : Nat), (x.v.p : Nat), x.k0, x.k1, x.k2, x.k3⟩ x.v y = true := by simp [takesB, anewB, HI.out, HBN.out, HPN.out, HL.out]
                  have hQ : Q = ⟨0, 0, false, 0, pr, x.f4, true, true, x.f2, x.f3, r0, r1, 2, (y.r : Nat), (y.c : Nat), (y.b : Nat), (y.p : Nat), n0, (IntKind.i64.wrap (3 * h)), x.k2, x.k3⟩ := by rw [HQ.out]; unfold hearP; rw [HO.out, ht]; rfl
                  have hK : k = 3 := by rw [HK.out]; unfold hearN; rw [HO.out, ht]; simp [HI.out, he]
                  have HQ2 := Lib.hid hQ
                  have HK2 := Lib.hid hK
                  clear hQ hK
                  clear ht
                  refine wp_region_lit ?_
                  refine wpList_val (.pointer (some ⟨b6x, 12, none⟩)) (by rfl) (by go_simp) ?_
                  (try simp only [Act.put, List.getElem_toArray, List.getElem_cons_succ, List.getElem_cons_zero, List.setIfInBounds_toArray, List.set_cons_zero, List.set_cons_succ])
                  refine wpList_val (.int .i64 m) (by rfl) (by have q : w9.cell? ⟨b6x, 12, none⟩ = some (.int .i64 m) := K9.out.cell (i := 4) rfl (by rfl); go_simp) ?_
                  (try simp only [Act.put, List.getElem_toArray, List.getElem_cons_succ, List.getElem_cons_zero, List.setIfInBounds_toArray, List.set_cons_zero, List.set_cons_succ])
                  refine wpList_val (.bool true) (by rfl) (by have q := HI.out; go_simp) ?_
                  (try simp only [Act.put, List.getElem_toArray, List.getElem_cons_succ, List.getElem_cons_zero, List.setIfInBounds_toArray, List.set_cons_zero, List.set_cons_succ])
                  refine wpList_val (.bool true) (by rfl) (by go_simp) ?_
                  (try simp only [Act.put, List.getElem_toArray, List.getElem_cons_succ, List.getElem_cons_zero, List.setIfInBounds_toArray, List.set_cons_zero, List.set_cons_succ])
                  refine wpList_nil ?_
                  go_upto_region 9 with fail
                  refine wp_region_lit ?_
                  refine wpList_val (.bool true) (by rfl) (by go_simp) ?_
                  (try simp only [Act.put, List.getElem_toArray, List.getElem_cons_succ, List.getElem_cons_zero, List.setIfInBounds_toArray, List.set_cons_zero, List.set_cons_succ])
                  refine wpList_val (.bool true) (by rfl) (by go_simp) ?_
                  (try simp only [Act.put, List.getElem_toArray, List.getElem_cons_succ, List.getElem_cons_zero, List.setIfInBounds_toArray, List.set_cons_zero, List.set_cons_succ])
                  refine wpList_val (.pointer (some ⟨b6y, 2, none⟩)) (by rfl) (by go_simp) ?_
                  (try simp only [Act.put, List.getElem_toArray, List.getElem_cons_succ, List.getElem_cons_zero, List.setIfInBounds_toArray, List.set_cons_zero, List.set_cons_succ])
                  refine wpList_val (.int .u64 (y.b : Nat)) (by rfl) (by have q : w9.cell? ⟨b6y, 2, none⟩ = some (.int .u64 (y.b : Nat)) := K9.out.cell (i := 5) rfl (by rfl); go_simp) ?_
                  (try simp only [Act.put, List.getElem_toArray, List.getElem_cons_succ, List.getElem_cons_zero, List.setIfInBounds_toArray, List.set_cons_zero, List.set_cons_succ])
                  refine wpList_val (.pointer (some ⟨b6x, 13, none⟩)) (by rfl) (by go_simp) ?_
                  (try simp only [Act.put, List.getElem_toArray, List.getElem_cons_succ, List.getElem_cons_zero, List.setIfInBounds_toArray, List.set_cons_zero, List.set_cons_succ])
                  refine wpList_val (.pointer (some ⟨b6x, 15, none⟩)) (by rfl) (by go_simp) ?_
                  (try simp only [Act.put, List.getElem_toArray, List.getElem_cons_succ, List.getElem_cons_zero, List.setIfInBounds_toArray, List.set_cons_zero, List.set_cons_succ])
                  refine wpList_val (.int .u64 (x.v.b : Nat)) (by rfl) (by have q : w9.cell? ⟨b6x, 15, none⟩ = some (.int .u64 (x.v.b : Nat)) := K9.out.cell (i := 4) rfl (by rfl); go_simp) ?_
                  (try simp only [Act.put, List.getElem_toArray, List.getElem_cons_succ, List.getElem_cons_zero, List.setIfInBounds_toArray, List.set_cons_zero, List.set_cons_succ])
                  refine wpList_val (.bool true) (by rfl) (by have q := HB.out; go_simp) ?_
                  (try simp only [Act.put, List.getElem_toArray, List.getElem_cons_succ, List.getElem_cons_zero, List.setIfInBounds_toArray, List.set_cons_zero, List.set_cons_succ])
                  refine wpList_val (.bool true) (by rfl) (run_pick_yes (.tmp 66) (.tmp 72) (.const (.bool false)) _ rfl rfl rfl) ?_
                  (try simp only [Act.put, List.getElem_toArray, List.getElem_cons_succ, List.getElem_cons_zero, List.setIfInBounds_toArray, List.set_cons_zero, List.set_cons_succ])
                  refine wpList_val (.bool true) (by rfl) (by go_simp) ?_
                  (try simp only [Act.put, List.getElem_toArray, List.getElem_cons_succ, List.getElem_cons_zero, List.setIfInBounds_toArray, List.set_cons_zero, List.set_cons_succ])
                  refine wpList_val (.pointer (some ⟨b6y, 3, none⟩)) (by rfl) (by go_simp) ?_
                  (try simp only [Act.put, List.getElem_toArray, List.getElem_cons_succ, List.getElem_cons_zero, List.setIfInBounds_toArray, List.set_cons_zero, List.set_cons_succ])
                  refine wpList_val (.int .u16 (y.p : Nat)) (by rfl) (by have q : w9.cell? ⟨b6y, 3, none⟩ = some (.int .u16 (y.p : Nat)) := K9.out.cell (i := 5) rfl (by rfl); go_simp) ?_
                  (try simp only [Act.put, List.getElem_toArray, List.getElem_cons_succ, List.getElem_cons_zero, List.setIfInBounds_toArray, List.set_cons_zero, List.set_cons_succ])
                  refine wpList_val (.pointer (some ⟨b6x, 13, none⟩)) (by rfl) (by go_simp) ?_
                  (try simp only [Act.put, List.getElem_toArray, List.getElem_cons_succ, List.getElem_cons_zero, List.setIfInBounds_toArray, List.set_cons_zero, List.set_cons_succ])
                  refine wpList_val (.pointer (some ⟨b6x, 16, none⟩)) (by rfl) (by go_simp) ?_
                  (try simp only [Act.put, List.getElem_toArray, List.getElem_cons_succ, List.getElem_cons_zero, List.setIfInBounds_toArray, List.set_cons_zero, List.set_cons_succ])
                  refine wpList_val (.int .u16 (x.v.p : Nat)) (by rfl) (by have q : w9.cell? ⟨b6x, 16, none⟩ = some (.int .u16 (x.v.p : Nat)) := K9.out.cell (i := 4) rfl (by rfl); go_simp) ?_
                  (try simp only [Act.put, List.getElem_toArray, List.getElem_cons_succ, List.getElem_cons_zero, List.setIfInBounds_toArray, List.set_cons_zero, List.set_cons_succ])
                  refine wpList_val (.bool false) (by rfl) (by have q := HP.out; go_simp) ?_
                  (try simp only [Act.put, List.getElem_toArray, List.getElem_cons_succ, List.getElem_cons_zero, List.setIfInBounds_toArray, List.set_cons_zero, List.set_cons_succ])
                  refine wpList_val (.bool false) (by rfl) (run_pick_yes (.tmp 74) (.tmp 80) (.const (.bool false)) _ rfl rfl rfl) ?_
                  (try simp only [Act.put, List.getElem_toArray, List.getElem_cons_succ, List.getElem_cons_zero, List.setIfInBounds_toArray, List.set_cons_zero, List.set_cons_succ])
                  refine wpList_val (.bool false) (by rfl) (by go_simp) ?_
                  (try simp only [Act.put, List.getElem_toArray, List.getElem_cons_succ, List.getElem_cons_zero, List.setIfInBounds_toArray, List.set_cons_zero, List.set_cons_succ])
                  refine wpList_nil ?_
                  go_upto_region 10 with fail
                  refine wp_region_lit ?_
                  refine wpList_val (.bool false) (by rfl) (by go_simp) ?_
                  (try simp only [Act.put, List.getElem_toArray, List.getElem_cons_succ, List.getElem_cons_zero, List.setIfInBounds_toArray, List.set_cons_zero, List.set_cons_succ])
                  refine wpList_val (.bool true) (by rfl) (by go_simp) ?_
                  (try simp only [Act.put, List.getElem_toArray, List.getElem_cons_succ, List.getElem_cons_zero, List.setIfInBounds_toArray, List.set_cons_zero, List.set_cons_succ])
                  refine wpList_val (.bool true) (by rfl) (by go_simp) ?_
                  (try simp only [Act.put, List.getElem_toArray, List.getElem_cons_succ, List.getElem_cons_zero, List.setIfInBounds_toArray, List.set_cons_zero, List.set_cons_succ])
                  refine wpList_val (.agg (vcA y)) (by rfl) (kb_all K9.out 5 rfl 44 _ rfl rfl Try.underlying44 rfl (sizeV)) ?_
                  (try simp only [Act.put, List.getElem_toArray, List.getElem_cons_succ, List.getElem_cons_zero, List.setIfInBounds_toArray, List.set_cons_zero, List.set_cons_succ])
                  refine wpList_val (.pointer (some ⟨b6x, 13, none⟩)) (by rfl) (by go_simp) ?_
                  (try simp only [Act.put, List.getElem_toArray, List.getElem_cons_succ, List.getElem_cons_zero, List.setIfInBounds_toArray, List.set_cons_zero, List.set_cons_succ])
                  refine wpList_val (.agg (#[.int .u64 (x.v.r : Nat), .int .u32 (x.v.c : Nat), .int .u64 (x.v.b : Nat), .int .u16 (x.v.p : Nat)])) (by rfl) (kb_part K9.out 4 rfl 44 _ 13 (#[.int .u64 (x.v.r : Nat), .int .u32 (x.v.c : Nat), .int .u64 (x.v.b : Nat), .int .u16 (x.v.p : Nat)]).toList rfl rfl (part_of (by kernel_rfl)) Try.underlying44 rfl (sizeV)) ?_
                  (try simp only [Act.put, List.getElem_toArray, List.getElem_cons_succ, List.getElem_cons_zero, List.setIfInBounds_toArray, List.set_cons_zero, List.set_cons_succ])
                  refine kb_call K9.out 13 #[.agg (vcA y), .agg (#[.int .u64 (x.v.r : Nat), .int .u32 (x.v.c : Nat), .int .u64 (x.v.b : Nat), .int .u16 (x.v.p : Nat)])] (.bool true) (by rfl) (by go_simp) (by have q := better_any y x.v w9; rw [HL.out] at q; exact q) ?_
                  intro w10 hk
                  have K10 := Lib.hid (show Kb w [(b1, lpA x, 55), (b2, tvA y, 52), (b3, #[.int .i64 n0, .int .i64 n1, .int .i64 n2], 56), (b5x, cfA ⟨0, n1, h, 0, 0, 0⟩, 58), (b6x, poA ⟨0, 0, false, 0, pr, x.f4, true, true, x.f2, x.f3, r0, r1, m, (x.v.r : Nat), (x.v.c : Nat), (x.v.b : Nat), (x.v.p : Nat), x.k0, x.k1, x.k2, x.k3⟩, 62), (b6y, vcA y, 44), (b8, poA Q, 62)] w10 from hk)
                  clear hk
                  (try simp only [Act.put, List.getElem_toArray, List.getElem_cons_succ, List.getElem_cons_zero, List.setIfInBounds_toArray, List.set_cons_zero, List.set_cons_succ])
                  refine wpList_val (.bool false) (by rfl) (by go_simp) ?_
                  (try simp only [Act.put, List.getElem_toArray, List.getElem_cons_succ, List.getElem_cons_zero, List.setIfInBounds_toArray, List.set_cons_zero, List.set_cons_succ])
                  refine wpList_val (.bool false) (by rfl) (run_pick_yes (.tmp 84) (.tmp 89) (.const (.bool false)) _ rfl rfl rfl) ?_
                  (try simp only [Act.put, List.getElem_toArray, List.getElem_cons_succ, List.getElem_cons_zero, List.setIfInBounds_toArray, List.set_cons_zero, List.set_cons_succ])
                  refine wpList_val (.bool false) (by rfl) (by go_simp) ?_
                  (try simp only [Act.put, List.getElem_toArray, List.getElem_cons_succ, List.getElem_cons_zero, List.setIfInBounds_toArray, List.set_cons_zero, List.set_cons_succ])
                  refine wpList_skip (by kernel_rfl) ?_
                  (try simp only [Act.put, List.getElem_toArray, List.getElem_cons_succ, List.getElem_cons_zero, List.setIfInBounds_toArray, List.set_cons_zero, List.set_cons_succ])
                  refine wpList_skip (by kernel_rfl) ?_
                  (try simp only [Act.put, List.getElem_toArray, List.getElem_cons_succ, List.getElem_cons_zero, List.setIfInBounds_toArray, List.set_cons_zero, List.set_cons_succ])
                  refine wpList_skip (by kernel_rfl) ?_
                  (try simp only [Act.put, List.getElem_toArray, List.getElem_cons_succ, List.getElem_cons_zero, List.setIfInBounds_toArray, List.set_cons_zero, List.set_cons_succ])
                  refine wpList_val (.bool false) (by rfl) (run_pick_no (.tmp 91) (.tmp 94) (.const (.bool false)) _ rfl rfl rfl) ?_
                  (try simp only [Act.put, List.getElem_toArray, List.getElem_cons_succ, List.getElem_cons_zero, List.setIfInBounds_toArray, List.set_cons_zero, List.set_cons_succ])
                  refine wpList_nil ?_
                  go_upto_region 12 with fail
                  refine wp_region_lit ?_
                  refine wpList_val (.int .i64 3) (by rfl) (by go_simp) ?_
                  (try simp only [Act.put, List.getElem_toArray, List.getElem_cons_succ, List.getElem_cons_zero, List.setIfInBounds_toArray, List.set_cons_zero, List.set_cons_succ])
                  refine wpList_nil ?_
                  go_upto_region 13 with fail
                  refine wp_region_lit ?_
                  refine wpList_val (.bool true) (by rfl) (by go_simp) ?_
                  (try simp only [Act.put, List.getElem_toArray, List.getElem_cons_succ, List.getElem_cons_zero, List.setIfInBounds_toArray, List.set_cons_zero, List.set_cons_succ])
                  refine wpList_val (.bool true) (by rfl) (by go_simp) ?_
                  (try simp only [Act.put, List.getElem_toArray, List.getElem_cons_succ, List.getElem_cons_zero, List.setIfInBounds_toArray, List.set_cons_zero, List.set_cons_succ])
                  refine wpList_val (.pointer (some ⟨b6x, 13, none⟩)) (by rfl) (by go_simp) ?_
                  (try simp only [Act.put, List.getElem_toArray, List.getElem_cons_succ, List.getElem_cons_zero, List.setIfInBounds_toArray, List.set_cons_zero, List.set_cons_succ])
                  refine wpList_val (.agg (#[.int .u64 (x.v.r : Nat), .int .u32 (x.v.c : Nat), .int .u64 (x.v.b : Nat), .int .u16 (x.v.p : Nat)])) (by rfl) (kb_part K10.out 4 rfl 44 _ 13 (#[.int .u64 (x.v.r : Nat), .int .u32 (x.v.c : Nat), .int .u64 (x.v.b : Nat), .int .u16 (x.v.p : Nat)]).toList rfl rfl (part_of (by kernel_rfl)) Try.underlying44 rfl (sizeV)) ?_
                  (try simp only [Act.put, List.getElem_toArray, List.getElem_cons_succ, List.getElem_cons_zero, List.setIfInBounds_toArray, List.set_cons_zero, List.set_cons_succ])
                  refine wpList_val (.agg (vcA y)) (by rfl) (kb_all K10.out 5 rfl 44 _ rfl rfl Try.underlying44 rfl (sizeV)) ?_
                  (try simp only [Act.put, List.getElem_toArray, List.getElem_cons_succ, List.getElem_cons_zero, List.setIfInBounds_toArray, List.set_cons_zero, List.set_cons_succ])
                  refine wpList_val (.bool false) (by rfl) (by have q := fun W => equal_vc x.v y W; rw [he] at q; go_simp) ?_
                  (try simp only [Act.put, List.getElem_toArray, List.getElem_cons_succ, List.getElem_cons_zero, List.setIfInBounds_toArray, List.set_cons_zero, List.set_cons_succ])
                  refine wpList_val (.bool false) (by rfl) (run_pick_yes (.tmp 104) (.tmp 108) (.const (.bool false)) _ rfl rfl rfl) ?_
                  (try simp only [Act.put, List.getElem_toArray, List.getElem_cons_succ, List.getElem_cons_zero, List.setIfInBounds_toArray, List.set_cons_zero, List.set_cons_succ])
                  refine wpList_nil ?_
                  go_upto_region 15 with fail
                  refine wp_region_inv (I := fun L ac w' => ac = HrC4 x y n0 n1 n2 h m pr r0 r1 Q k b1 b2 b3 b5x b6x b6y b8 L ∧ Kb w [(b1, lpA x, 55), (b2, tvA y, 52), (b3, #[.int .i64 n0, .int .i64 n1, .int .i64 n2], 56), (b5x, cfA ⟨0, n1, h, 0, 0, 0⟩, 58), (b6x, poA ⟨0, 0, false, 0, pr, x.f4, true, true, x.f2, x.f3, r0, r1, (bif L 6 then 2 else m), (bif L 8 then (y.r : Nat) else (x.v.r : Nat)), (bif L 8 then (y.c : Nat) else (x.v.c : Nat)), (bif L 8 then (y.b : Nat) else (x.v.b : Nat)), (bif L 8 then (y.p : Nat) else (x.v.p : Nat)), (bif L 10 then n0 else x.k0), (bif L 12 then (IntKind.i64.wrap (3 * h)) else x.k1), x.k2, x.k3⟩, 62), (b6y, vcA y, 44), (b8, poA Q, 62)] w') (by kernel_rfl) (by kernel_rfl) ⟨by kernel_rfl, K10.out.drew⟩ ?_ ?_
                  · intro i hi Lx ac w' hI hL haft
                    obtain ⟨rfl, hw⟩ := hI
                    match i, hi with
                    | 0, _ =>
                      have g10 : (HrC4 x y n0 n1 n2 h m pr r0 r1 Q k b1 b2 b3 b5x b6x b6y b8 Lx).tmps[10]?.getD undef = .pointer (some ⟨b6y, 0, none⟩) := by kernel_rfl
                      have e10 : (HrC4 x y n0 n1 n2 h m pr r0 r1 Q k b1 b2 b3 b5x b6x b6y b8 Lx).eval (.tmp 10) = .pointer (some ⟨b6y, 0, none⟩) := by kernel_rfl
                      exact i_val rfl (.agg (vcA y)) w' (by rfl) (kb_all hw 5 rfl 44 _ rfl e10 Try.underlying44 rfl (sizeV)) ⟨by kernel_rfl, hw⟩
                    | 1, _ =>
                      have g7 : (HrC4 x y n0 n1 n2 h m pr r0 r1 Q k b1 b2 b3 b5x b6x b6y b8 Lx).tmps[7]?.getD undef = .int .i64 n0 := by kernel_rfl
                      have e7 : (HrC4 x y n0 n1 n2 h m pr r0 r1 Q k b1 b2 b3 b5x b6x b6y b8 Lx).eval (.tmp 7) = .int .i64 n0 := by kernel_rfl
                      exact i_val rfl (.int .i64 n0) w' (by rfl) (by go_simp) ⟨by kernel_rfl, hw⟩
                    | 2, _ =>
                      have g8 : (HrC4 x y n0 n1 n2 h m pr r0 r1 Q k b1 b2 b3 b5x b6x b6y b8 Lx).tmps[8]?.getD undef = .pointer (some ⟨b5x, 0, none⟩) := by kernel_rfl
                      have e8 : (HrC4 x y n0 n1 n2 h m pr r0 r1 Q k b1 b2 b3 b5x b6x b6y b8 Lx).eval (.tmp 8) = .pointer (some ⟨b5x, 0, none⟩) := by kernel_rfl
                      exact i_val rfl (.pointer (some ⟨b5x, 2, none⟩)) w' (by rfl) (by go_simp) ⟨by kernel_rfl, hw⟩
                    | 3, _ =>
                      have h2 := haft 2 (by decide)
                      have e112 : (HrC4 x y n0 n1 n2 h m pr r0 r1 Q k b1 b2 b3 b5x b6x b6y b8 Lx).eval (.tmp 112) = .pointer (some ⟨b5x, 2, none⟩) := by show (bif Lx 2 then _ else _) = _; rw [h2]; rfl
                      have g112 : (HrC4 x y n0 n1 n2 h m pr r0 r1 Q k b1 b2 b3 b5x b6x b6y b8 Lx).tmps[112]?.getD undef = .pointer (some ⟨b5x, 2, none⟩) := by show (bif Lx 2 then _ else _) = _; rw [h2]; rfl
                      exact i_val rfl (.int .i64 h) w' (by rfl) (by have q : w'.cell? ⟨b5x, 2, none⟩ = some (.int .i64 h) := Kb.cell (i := 3) hw rfl (by rfl); go_simp) ⟨by kernel_rfl, hw⟩
                    | 4, _ =>
                      have h3 := haft 3 (by decide)
                      have e113 : (HrC4 x y n0 n1 n2 h m pr r0 r1 Q k b1 b2 b3 b5x b6x b6y b8 Lx).eval (.tmp 113) = .int .i64 h := by show (bif Lx 3 then _ else _) = _; rw [h3]; rfl
                      have g113 : (HrC4 x y n0 n1 n2 h m pr r0 r1 Q k b1 b2 b3 b5x b6x b6y b8 Lx).tmps[113]?.getD undef = .int .i64 h := by show (bif Lx 3 then _ else _) = _; rw [h3]; rfl
                      exact i_val rfl (.int .i64 (IntKind.i64.wrap (3 * h))) w' (by rfl) (by go_simp) ⟨by kernel_rfl, hw⟩
                    | 5, _ =>
                      have g9 : (HrC4 x y n0 n1 n2 h m pr r0 r1 Q k b1 b2 b3 b5x b6x b6y b8 Lx).tmps[9]?.getD undef = .pointer (some ⟨b6x, 0, none⟩) := by kernel_rfl
                      have e9 : (HrC4 x y n0 n1 n2 h m pr r0 r1 Q k b1 b2 b3 b5x b6x b6y b8 Lx).eval (.tmp 9) = .pointer (some ⟨b6x, 0, none⟩) := by kernel_rfl
                      exact i_val rfl (.pointer (some ⟨b6x, 12, none⟩)) w' (by rfl) (by go_simp) ⟨by kernel_rfl, hw⟩
                    | 6, _ =>
                      have h5 := haft 5 (by decide)
                      have e115 : (HrC4 x y n0 n1 n2 h m pr r0 r1 Q k b1 b2 b3 b5x b6x b6y b8 Lx).eval (.tmp 115) = .pointer (some ⟨b6x, 12, none⟩) := by show (bif Lx 5 then _ else _) = _; rw [h5]; rfl
                      have g115 : (HrC4 x y n0 n1 n2 h m pr r0 r1 Q k b1 b2 b3 b5x b6x b6y b8 Lx).tmps[115]?.getD undef = .pointer (some ⟨b6x, 12, none⟩) := by show (bif Lx 5 then _ else _) = _; rw [h5]; rfl
                      exact i_wp rfl (by rfl) (wp_store_cell 3 _ _ rfl ⟨b6x, 12, none⟩ (.int .i64 2) e115 rfl (kb_run_set hw (i := 4) rfl 3 12 (.int .i64 (bif Lx 6 then 2 else m)) (.int .i64 2) (by rfl) (fun W h1 h2 => by go_simp)) ⟨by kernel_rfl, cast_blk (Kb.set (i := 4) hw rfl 12 (.int .i64 2)) (by rfl)⟩)
                    | 7, _ =>
                      have g9 : (HrC4 x y n0 n1 n2 h m pr r0 r1 Q k b1 b2 b3 b5x b6x b6y b8 Lx).tmps[9]?.getD undef = .pointer (some ⟨b6x, 0, none⟩) := by kernel_rfl
                      have e9 : (HrC4 x y n0 n1 n2 h m pr r0 r1 Q k b1 b2 b3 b5x b6x b6y b8 Lx).eval (.tmp 9) = .pointer (some ⟨b6x, 0, none⟩) := by kernel_rfl
                      exact i_val rfl (.pointer (some ⟨b6x, 13, none⟩)) w' (by rfl) (by go_simp) ⟨by kernel_rfl, hw⟩
                    | 8, _ =>
                      have h0 := haft 0 (by decide)
                      have e110 : (HrC4 x y n0 n1 n2 h m pr r0 r1 Q k b1 b2 b3 b5x b6x b6y b8 Lx).eval (.tmp 110) = .agg (vcA y) := by show (bif Lx 0 then _ else _) = _; rw [h0]; rfl
                      have g110 : (HrC4 x y n0 n1 n2 h m pr r0 r1 Q k b1 b2 b3 b5x b6x b6y b8 Lx).tmps[110]?.getD undef = .agg (vcA y) := by show (bif Lx 0 then _ else _) = _; rw [h0]; rfl
                      have h7 := haft 7 (by decide)
                      have e116 : (HrC4 x y n0 n1 n2 h m pr r0 r1 Q k b1 b2 b3 b5x b6x b6y b8 Lx).eval (.tmp 116) = .pointer (some ⟨b6x, 13, none⟩) := by show (bif Lx 7 then _ else _) = _; rw [h7]; rfl
                      have g116 : (HrC4 x y n0 n1 n2 h m pr r0 r1 Q k b1 b2 b3 b5x b6x b6y b8 Lx).tmps[116]?.getD undef = .pointer (some ⟨b6x, 13, none⟩) := by show (bif Lx 7 then _ else _) = _; rw [h7]; rfl
                      exact i_wp rfl (by rfl) (wp_store_mid 44 _ _ rfl b6x 13 (vcA y) e116 e110 ((Kb.at (i := 4) hw rfl).thereN 13 4 (Nat.le_of_ble_eq_true (by kernel_rfl))) (sizeV) (by kernel_rfl) ⟨by kernel_rfl, cast_blk (Kb.mid (i := 4) hw rfl 13 (vcA y).toList) (by rfl)⟩)
                    | 9, _ =>
                      have g9 : (HrC4 x y n0 n1 n2 h m pr r0 r1 Q k b1 b2 b3 b5x b6x b6y b8 Lx).tmps[9]?.getD undef = .pointer (some ⟨b6x, 0, none⟩) := by kernel_rfl
                      have e9 : (HrC4 x y n0 n1 n2 h m pr r0 r1 Q k b1 b2 b3 b5x b6x b6y b8 Lx).eval (.tmp 9) = .pointer (some ⟨b6x, 0, none⟩) := by kernel_rfl
                      exact i_val rfl (.pointer (some ⟨b6x, 17, none⟩)) w' (by rfl) (by go_simp) ⟨by kernel_rfl, hw⟩
                    | 10, _ =>
                      have h1 := haft 1 (by decide)
                      have e111 : (HrC4 x y n0 n1 n2 h m pr r0 r1 Q k b1 b2 b3 b5x b6x b6y b8 Lx).eval (.tmp 111) = .int .i64 n0 := by show (bif Lx 1 then _ else _) = _; rw [h1]; rfl
                      have g111 : (HrC4 x y n0 n1 n2 h m pr r0 r1 Q k b1 b2 b3 b5x b6x b6y b8 Lx).tmps[111]?.getD undef = .int .i64 n0 := by show (bif Lx 1 then _ else _) = _; rw [h1]; rfl
                      have h9 := haft 9 (by decide)
                      have e117 : (HrC4 x y n0 n1 n2 h m pr r0 r1 Q k b1 b2 b3 b5x b6x b6y b8 Lx).eval (.tmp 117) = .pointer (some ⟨b6x, 17, none⟩) := by show (bif Lx 9 then _ else _) = _; rw [h9]; rfl
                      have g117 : (HrC4 x y n0 n1 n2 h m pr r0 r1 Q k b1 b2 b3 b5x b6x b6y b8 Lx).tmps[117]?.getD undef = .pointer (some ⟨b6x, 17, none⟩) := by show (bif Lx 9 then _ else _) = _; rw [h9]; rfl
                      exact i_wp rfl (by rfl) (wp_store_cell 3 _ _ rfl ⟨b6x, 17, none⟩ (.int .i64 n0) e117 e111 (kb_run_set hw (i := 4) rfl 3 17 (.int .i64 (bif Lx 10 then n0 else x.k0)) (.int .i64 n0) (by rfl) (fun W h1 h2 => by go_simp)) ⟨by kernel_rfl, cast_blk (Kb.set (i := 4) hw rfl 17 (.int .i64 n0)) (by rfl)⟩)
                    | 11, _ =>
                      have g9 : (HrC4 x y n0 n1 n2 h m pr r0 r1 Q k b1 b2 b3 b5x b6x b6y b8 Lx).tmps[9]?.getD undef = .pointer (some ⟨b6x, 0, none⟩) := by kernel_rfl
                      have e9 : (HrC4 x y n0 n1 n2 h m pr r0 r1 Q k b1 b2 b3 b5x b6x b6y b8 Lx).eval (.tmp 9) = .pointer (some ⟨b6x, 0, none⟩) := by kernel_rfl
                      exact i_val rfl (.pointer (some ⟨b6x, 18, none⟩)) w' (by rfl) (by go_simp) ⟨by kernel_rfl, hw⟩
                    | 12, _ =>
                      have h4 := haft 4 (by decide)
                      have e114 : (HrC4 x y n0 n1 n2 h m pr r0 r1 Q k b1 b2 b3 b5x b6x b6y b8 Lx).eval (.tmp 114) = .int .i64 (IntKind.i64.wrap (3 * h)) := by show (bif Lx 4 then _ else _) = _; rw [h4]; rfl
                      have g114 : (HrC4 x y n0 n1 n2 h m pr r0 r1 Q k b1 b2 b3 b5x b6x b6y b8 Lx).tmps[114]?.getD undef = .int .i64 (IntKind.i64.wrap (3 * h)) := by show (bif Lx 4 then _ else _) = _; rw [h4]; rfl
                      have h11 := haft 11 (by decide)
                      have e118 : (HrC4 x y n0 n1 n2 h m pr r0 r1 Q k b1 b2 b3 b5x b6x b6y b8 Lx).eval (.tmp 118) = .pointer (some ⟨b6x, 18, none⟩) := by show (bif Lx 11 then _ else _) = _; rw [h11]; rfl
                      have g118 : (HrC4 x y n0 n1 n2 h m pr r0 r1 Q k b1 b2 b3 b5x b6x b6y b8 Lx).tmps[118]?.getD undef = .pointer (some ⟨b6x, 18, none⟩) := by show (bif Lx 11 then _ else _) = _; rw [h11]; rfl
                      exact i_wp rfl (by rfl) (wp_store_cell 3 _ _ rfl ⟨b6x, 18, none⟩ (.int .i64 (IntKind.i64.wrap (3 * h))) e118 e114 (kb_run_set hw (i := 4) rfl 3 18 (.int .i64 (bif Lx 12 then (IntKind.i64.wrap (3 * h)) else x.k1)) (.int .i64 (IntKind.i64.wrap (3 * h))) (by rfl) (fun W h1 h2 => by go_simp)) ⟨by kernel_rfl, cast_blk (Kb.set (i := 4) hw rfl 18 (.int .i64 (IntKind.i64.wrap (3 * h)))) (by rfl)⟩)
                    | k + 13, h =>
                      exfalso
                      have h2 : k + 13 < 13 := h
                      omega
                  intro Lx ac w11 hI hall
                  obtain ⟨rfl, hw⟩ := hI
                  have hfr : HrC4 x y n0 n1 n2 h m pr r0 r1 Q k b1 b2 b3 b5x b6x b6y b8 Lx = { tmps := #[.agg (lpA x), .agg (tvA y), .agg (#[.int .i64 n0, .int .i64 n1, .int .i64 n2]), .pointer (some ⟨b1, 0, none⟩), .pointer (some ⟨b2, 0, none⟩), .pointer (some ⟨b3, 0, none⟩), .bool false, .int .i64 n0, .pointer (some ⟨b5x, 0, none⟩), .pointer (some ⟨b6x, 0, none⟩), .pointer (some ⟨b6y, 0, none⟩), .pointer (some ⟨b8, 0, none⟩), .int .i64 k, .bool true, .bool false, .int .i64 3, .bool true, .bool false, .pointer (some ⟨b3, 0, none⟩), .int .i64 n0, .pointer (some ⟨b3, 1, none⟩), .int .i64 n1, .pointer (some ⟨b3, 2, none⟩), .int .i64 n2, .int .i64 h, .agg (cfA ⟨0, n1, h, 0, 0, 0⟩), .agg (lpA x), .agg (poA ⟨0, 0, false, 0, pr, x.f4, true, true, x.f2, x.f3, r0, r1, m, (x.v.r : Nat), (x.v.c : Nat), (x.v.b : Nat), (x.v.p : Nat), x.k0, x.k1, x.k2, x.k3⟩), .agg (tvA y), .agg (vcA y), .tuple #[.agg (poA Q), .int .i64 k], .agg (poA ⟨0, 0, false, 0, pr, x.f4, true, true, x.f2, x.f3, r0, r1, m, (x.v.r : Nat), (x.v.c : Nat), (x.v.b : Nat), (x.v.p : Nat), x.k0, x.k1, x.k2, x.k3⟩), .agg (vcA y), .int .i64 n0, .agg (cfA ⟨0, n1, h, 0, 0, 0⟩), .tuple #[.agg (poA Q), .int .i64 k], .agg (poA Q), .int .i64 k, .pointer (some ⟨b6x, 7, none⟩), .bool true, .bool true, .pointer (some ⟨b6x, 6, none⟩), .bool true, .bool true, .bool false, .bool false, .int .i64 n0, .bool false, .bool false, .bool false, .int .i64 n0, .pointer (some ⟨b5x, 1, none⟩), .int .i64 n1, .bool false, .bool false, undef, undef, undef, undef, undef, undef, undef, .pointer (some ⟨b6x, 12, none⟩), .int .i64 m, .bool true, .bool true, .bool true, .pointer (some ⟨b6y, 2, none⟩), .int .u64 (y.b : Nat), .pointer (some ⟨b6x, 13, none⟩), .pointer (some ⟨b6x, 15, none⟩), .int .u64 (x.v.b : Nat), .bool true, .bool true, .bool true, .pointer (some ⟨b6y, 3, none⟩), .int .u16 (y.p : Nat), .pointer (some ⟨b6x, 13, none⟩), .pointer (some ⟨b6x, 16, none⟩), .int .u16 (x.v.p : Nat), .bool false, .bool false, .bool false, .bool true, .bool true, .agg (vcA y), .pointer (some ⟨b6x, 13, none⟩), .agg (#[.int .u64 (x.v.r : Nat), .int .u32 (x.v.c : Nat), .int .u64 (x.v.b : Nat), .int .u16 (x.v.p : Nat)]), .bool true, .bool false, .bool false, .bool false, undef, undef, undef, .bool false, undef, undef, undef, undef, undef, undef, undef, .bool true, .bool true, .pointer (some ⟨b6x, 13, none⟩), .agg (#[.int .u64 (x.v.r : Nat), .int .u32 (x.v.c : Nat), .int .u64 (x.v.b : Nat), .int .u16 (x.v.p : Nat)]), .agg (vcA y), .bool false, .bool false, .agg (vcA y), .int .i64 n0, .pointer (some ⟨b5x, 2, none⟩), .int .i64 h, .int .i64 (IntKind.i64.wrap (3 * h)), .pointer (some ⟨b6x, 12, none⟩), .pointer (some ⟨b6x, 13, none⟩), .pointer (some ⟨b6x, 17, none⟩), .pointer (some ⟨b6x, 18, none⟩), undef, undef, undef, undef, undef, undef, undef, undef], defers := [] } := by unfold HrC4; simp only [hall 0 (by decide), hall 1 (by decide), hall 2 (by decide), hall 3 (by decide), hall 4 (by decide), hall 5 (by decide), hall 7 (by decide), hall 9 (by decide), hall 11 (by decide), cond_true]
                  rw [hfr]
                  clear hfr
                  have hL6 := hall 6 (by decide)
                  have hL8 := hall 8 (by decide)
                  have hL10 := hall 10 (by decide)
                  have hL12 := hall 12 (by decide)
                  simp only [hL6, hL8, hL10, hL12, cond_true] at hw
                  have K11 := Lib.hid (show Kb w [(b1, lpA x, 55), (b2, tvA y, 52), (b3, #[.int .i64 n0, .int .i64 n1, .int .i64 n2], 56), (b5x, cfA ⟨0, n1, h, 0, 0, 0⟩, 58), (b6x, poA ⟨0, 0, false, 0, pr, x.f4, true, true, x.f2, x.f3, r0, r1, 2, (y.r : Nat), (y.c : Nat), (y.b : Nat), (y.p : Nat), n0, (IntKind.i64.wrap (3 * h)), x.k2, x.k3⟩, 62), (b6y, vcA y, 44), (b8, poA Q, 62)] w11 from hw)
                  clear hw hall hL6 hL8 hL10 hL12
                  go_upto_region 16 with fail
                  refine wp_region_lit ?_
                  refine wpList_val (.int .i64 k) (by rfl) (by go_simp) ?_
                  (try simp only [Act.put, List.getElem_toArray, List.getElem_cons_succ, List.getElem_cons_zero, List.setIfInBounds_toArray, List.set_cons_zero, List.set_cons_succ])
                  refine wpList_val (.int .i64 3) (by rfl) (by go_simp) ?_
                  (try simp only [Act.put, List.getElem_toArray, List.getElem_cons_succ, List.getElem_cons_zero, List.setIfInBounds_toArray, List.set_cons_zero, List.set_cons_succ])
                  refine wpList_val (.bool true) (by rfl) (by have q := HK2.out; go_simp) ?_
                  (try simp only [Act.put, List.getElem_toArray, List.getElem_cons_succ, List.getElem_cons_zero, List.setIfInBounds_toArray, List.set_cons_zero, List.set_cons_succ])
                  refine wpList_val (.bool true) (by rfl) (by go_simp) ?_
                  (try simp only [Act.put, List.getElem_toArray, List.getElem_cons_succ, List.getElem_cons_zero, List.setIfInBounds_toArray, List.set_cons_zero, List.set_cons_succ])
                  refine wpList_val (.agg (poA Q)) (by rfl) (kb_all K11.out 6 rfl 62 _ rfl rfl Try.underlying62 rfl (size50)) ?_
                  (try simp only [Act.put, List.getElem_toArray, List.getElem_cons_succ, List.getElem_cons_zero, List.setIfInBounds_toArray, List.set_cons_zero, List.set_cons_succ])
                  refine wpList_val (.agg (poA ⟨0, 0, false, 0, pr, x.f4, true, true, x.f2, x.f3, r0, r1, 2, (y.r : Nat), (y.c : Nat), (y.b : Nat), (y.p : Nat), n0, (IntKind.i64.wrap (3 * h)), x.k2, x.k3⟩)) (by rfl) (kb_all K11.out 4 rfl 62 _ rfl rfl Try.underlying62 rfl (size50)) ?_
                  (try simp only [Act.put, List.getElem_toArray, List.getElem_cons_succ, List.getElem_cons_zero, List.setIfInBounds_toArray, List.set_cons_zero, List.set_cons_succ])
                  refine wpList_val (.bool true) (by rfl) (by have q := eq_po2 HQ2.out; go_simp) ?_
                  (try simp only [Act.put, List.getElem_toArray, List.getElem_cons_succ, List.getElem_cons_zero, List.setIfInBounds_toArray, List.set_cons_zero, List.set_cons_succ])
                  refine wpList_val (.bool true) (by rfl) (run_pick_yes (.tmp 122) (.tmp 125) (.const (.bool false)) _ rfl rfl rfl) ?_
                  (try simp only [Act.put, List.getElem_toArray, List.getElem_cons_succ, List.getElem_cons_zero, List.setIfInBounds_toArray, List.set_cons_zero, List.set_cons_succ])
                  refine wpList_val (.bool true) (by rfl) (by go_simp) ?_
                  (try simp only [Act.put, List.getElem_toArray, List.getElem_cons_succ, List.getElem_cons_zero, List.setIfInBounds_toArray, List.set_cons_zero, List.set_cons_succ])
                  refine wpList_nil ?_
                  go_wp2_with fail
                  go_ret
                  exact ⟨ret_bool (rfl), K11.out.below⟩
              case pos =>
                have hpn : y.p = x.v.p := by omega
                have HP := Lib.hid hp
                clear hp
                have HPN := Lib.hid hpn
                clear hpn
                cases he : eqV x.v y
                case false =>
                  have ht : takesB ⟨0, 0, false, 0, pr, x.f4, true, true, x.f2, x.f3, r0, r1, m, (x.v.r : Nat), (x.v.c : Nat), (x.v.b : Nat), (x.v.p : Nat), x.k0, x.k1, x.k2, x.k3⟩ x.v y = true := by simp [takesB, anewB, HI.out, HBN.out, HPN.out]
                  have hQ : Q = ⟨0, 0, false, 0, pr, x.f4, true, true, x.f2, x.f3, r0, r1, 2, (y.r : Nat), (y.c : Nat), (y.b : Nat), (y.p : Nat), n0, (IntKind.i64.wrap (3 * h)), x.k2, x.k3⟩ := by rw [HQ.out]; unfold hearP; rw [HO.out, ht]; rfl
                  have hK : k = 3 := by rw [HK.out]; unfold hearN; rw [HO.out, ht]; simp [HI.out, he]
                  have HQ2 := Lib.hid hQ
                  have HK2 := Lib.hid hK
                  clear hQ hK
                  clear ht
                  refine wp_region_lit ?_
                  refine wpList_val (.pointer (some ⟨b6x, 12, none⟩)) (by rfl) (by go_simp) ?_
                  (try simp only [Act.put, List.getElem_toArray, List.getElem_cons_succ, List.getElem_cons_zero, List.setIfInBounds_toArray, List.set_cons_zero, List.set_cons_succ])
                  refine wpList_val (.int .i64 m) (by rfl) (by have q : w9.cell? ⟨b6x, 12, none⟩ = some (.int .i64 m) := K9.out.cell (i := 4) rfl (by rfl); go_simp) ?_
                  (try simp only [Act.put, List.getElem_toArray, List.getElem_cons_succ, List.getElem_cons_zero, List.setIfInBounds_toArray, List.set_cons_zero, List.set_cons_succ])
                  refine wpList_val (.bool true) (by rfl) (by have q := HI.out; go_simp) ?_
                  (try simp only [Act.put, List.getElem_toArray, List.getElem_cons_succ, List.getElem_cons_zero, List.setIfInBounds_toArray, List.set_cons_zero, List.set_cons_succ])
                  refine wpList_val (.bool true) (by rfl) (by go_simp) ?_
                  (try simp only [Act.put, List.getElem_toArray, List.getElem_cons_succ, List.getElem_cons_zero, List.setIfInBounds_toArray, List.set_cons_zero, List.set_cons_succ])
                  refine wpList_nil ?_
                  go_upto_region 9 with fail
                  refine wp_region_lit ?_
                  refine wpList_val (.bool true) (by rfl) (by go_simp) ?_
                  (try simp only [Act.put, List.getElem_toArray, List.getElem_cons_succ, List.getElem_cons_zero, List.setIfInBounds_toArray, List.set_cons_zero, List.set_cons_succ])
                  refine wpList_val (.bool true) (by rfl) (by go_simp) ?_
                  (try simp only [Act.put, List.getElem_toArray, List.getElem_cons_succ, List.getElem_cons_zero, List.setIfInBounds_toArray, List.set_cons_zero, List.set_cons_succ])
                  refine wpList_val (.pointer (some ⟨b6y, 2, none⟩)) (by rfl) (by go_simp) ?_
                  (try simp only [Act.put, List.getElem_toArray, List.getElem_cons_succ, List.getElem_cons_zero, List.setIfInBounds_toArray, List.set_cons_zero, List.set_cons_succ])
                  refine wpList_val (.int .u64 (y.b : Nat)) (by rfl) (by have q : w9.cell? ⟨b6y, 2, none⟩ = some (.int .u64 (y.b : Nat)) := K9.out.cell (i := 5) rfl (by rfl); go_simp) ?_
                  (try simp only [Act.put, List.getElem_toArray, List.getElem_cons_succ, List.getElem_cons_zero, List.setIfInBounds_toArray, List.set_cons_zero, List.set_cons_succ])
                  refine wpList_val (.pointer (some ⟨b6x, 13, none⟩)) (by rfl) (by go_simp) ?_
                  (try simp only [Act.put, List.getElem_toArray, List.getElem_cons_succ, List.getElem_cons_zero, List.setIfInBounds_toArray, List.set_cons_zero, List.set_cons_succ])
                  refine wpList_val (.pointer (some ⟨b6x, 15, none⟩)) (by rfl) (by go_simp) ?_
                  (try simp only [Act.put, List.getElem_toArray, List.getElem_cons_succ, List.getElem_cons_zero, List.setIfInBounds_toArray, List.set_cons_zero, List.set_cons_succ])
                  refine wpList_val (.int .u64 (x.v.b : Nat)) (by rfl) (by have q : w9.cell? ⟨b6x, 15, none⟩ = some (.int .u64 (x.v.b : Nat)) := K9.out.cell (i := 4) rfl (by rfl); go_simp) ?_
                  (try simp only [Act.put, List.getElem_toArray, List.getElem_cons_succ, List.getElem_cons_zero, List.setIfInBounds_toArray, List.set_cons_zero, List.set_cons_succ])
                  refine wpList_val (.bool true) (by rfl) (by have q := HB.out; go_simp) ?_
                  (try simp only [Act.put, List.getElem_toArray, List.getElem_cons_succ, List.getElem_cons_zero, List.setIfInBounds_toArray, List.set_cons_zero, List.set_cons_succ])
                  refine wpList_val (.bool true) (by rfl) (run_pick_yes (.tmp 66) (.tmp 72) (.const (.bool false)) _ rfl rfl rfl) ?_
                  (try simp only [Act.put, List.getElem_toArray, List.getElem_cons_succ, List.getElem_cons_zero, List.setIfInBounds_toArray, List.set_cons_zero, List.set_cons_succ])
                  refine wpList_val (.bool true) (by rfl) (by go_simp) ?_
                  (try simp only [Act.put, List.getElem_toArray, List.getElem_cons_succ, List.getElem_cons_zero, List.setIfInBounds_toArray, List.set_cons_zero, List.set_cons_succ])
                  refine wpList_val (.pointer (some ⟨b6y, 3, none⟩)) (by rfl) (by go_simp) ?_
                  (try simp only [Act.put, List.getElem_toArray, List.getElem_cons_succ, List.getElem_cons_zero, List.setIfInBounds_toArray, List.set_cons_zero, List.set_cons_succ])
                  refine wpList_val (.int .u16 (y.p : Nat)) (by rfl) (by have q : w9.cell? ⟨b6y, 3, none⟩ = some (.int .u16 (y.p : Nat)) := K9.out.cell (i := 5) rfl (by rfl); go_simp) ?_
                  (try simp only [Act.put, List.getElem_toArray, List.getElem_cons_succ, List.getElem_cons_zero, List.setIfInBounds_toArray, List.set_cons_zero, List.set_cons_succ])
                  refine wpList_val (.pointer (some ⟨b6x, 13, none⟩)) (by rfl) (by go_simp) ?_
                  (try simp only [Act.put, List.getElem_toArray, List.getElem_cons_succ, List.getElem_cons_zero, List.setIfInBounds_toArray, List.set_cons_zero, List.set_cons_succ])
                  refine wpList_val (.pointer (some ⟨b6x, 16, none⟩)) (by rfl) (by go_simp) ?_
                  (try simp only [Act.put, List.getElem_toArray, List.getElem_cons_succ, List.getElem_cons_zero, List.setIfInBounds_toArray, List.set_cons_zero, List.set_cons_succ])
                  refine wpList_val (.int .u16 (x.v.p : Nat)) (by rfl) (by have q : w9.cell? ⟨b6x, 16, none⟩ = some (.int .u16 (x.v.p : Nat)) := K9.out.cell (i := 4) rfl (by rfl); go_simp) ?_
                  (try simp only [Act.put, List.getElem_toArray, List.getElem_cons_succ, List.getElem_cons_zero, List.setIfInBounds_toArray, List.set_cons_zero, List.set_cons_succ])
                  refine wpList_val (.bool true) (by rfl) (by have q := HP.out; go_simp) ?_
                  (try simp only [Act.put, List.getElem_toArray, List.getElem_cons_succ, List.getElem_cons_zero, List.setIfInBounds_toArray, List.set_cons_zero, List.set_cons_succ])
                  refine wpList_val (.bool true) (by rfl) (run_pick_yes (.tmp 74) (.tmp 80) (.const (.bool false)) _ rfl rfl rfl) ?_
                  (try simp only [Act.put, List.getElem_toArray, List.getElem_cons_succ, List.getElem_cons_zero, List.setIfInBounds_toArray, List.set_cons_zero, List.set_cons_succ])
                  refine wpList_val (.bool true) (by rfl) (by go_simp) ?_
                  (try simp only [Act.put, List.getElem_toArray, List.getElem_cons_succ, List.getElem_cons_zero, List.setIfInBounds_toArray, List.set_cons_zero, List.set_cons_succ])
                  refine wpList_nil ?_
                  go_upto_region 10 with fail
                  refine wp_region_lit ?_
                  refine wpList_val (.bool true) (by rfl) (by go_simp) ?_
                  (try simp only [Act.put, List.getElem_toArray, List.getElem_cons_succ, List.getElem_cons_zero, List.setIfInBounds_toArray, List.set_cons_zero, List.set_cons_succ])
                  refine wpList_val (.bool false) (by rfl) (by go_simp) ?_
                  (try simp only [Act.put, List.getElem_toArray, List.getElem_cons_succ, List.getElem_cons_zero, List.setIfInBounds_toArray, List.set_cons_zero, List.set_cons_succ])
                  refine wpList_val (.bool false) (by rfl) (by go_simp) ?_
                  (try simp only [Act.put, List.getElem_toArray, List.getElem_cons_succ, List.getElem_cons_zero, List.setIfInBounds_toArray, List.set_cons_zero, List.set_cons_succ])
                  refine wpList_skip (by kernel_rfl) ?_
                  (try simp only [Act.put, List.getElem_toArray, List.getElem_cons_succ, List.getElem_cons_zero, List.setIfInBounds_toArray, List.set_cons_zero, List.set_cons_succ])
                  refine wpList_skip (by kernel_rfl) ?_
                  (try simp only [Act.put, List.getElem_toArray, List.getElem_cons_succ, List.getElem_cons_zero, List.setIfInBounds_toArray, List.set_cons_zero, List.set_cons_succ])
                  refine wpList_skip (by kernel_rfl) ?_
                  (try simp only [Act.put, List.getElem_toArray, List.getElem_cons_succ, List.getElem_cons_zero, List.setIfInBounds_toArray, List.set_cons_zero, List.set_cons_succ])
                  refine wpList_skip (by kernel_rfl) ?_
                  (try simp only [Act.put, List.getElem_toArray, List.getElem_cons_succ, List.getElem_cons_zero, List.setIfInBounds_toArray, List.set_cons_zero, List.set_cons_succ])
                  refine wpList_skip (by kernel_rfl) ?_
                  (try simp only [Act.put, List.getElem_toArray, List.getElem_cons_succ, List.getElem_cons_zero, List.setIfInBounds_toArray, List.set_cons_zero, List.set_cons_succ])
                  refine wpList_val (.bool false) (by rfl) (run_pick_no (.tmp 84) (.tmp 89) (.const (.bool false)) _ rfl rfl rfl) ?_
                  (try simp only [Act.put, List.getElem_toArray, List.getElem_cons_succ, List.getElem_cons_zero, List.setIfInBounds_toArray, List.set_cons_zero, List.set_cons_succ])
                  refine wpList_val (.bool false) (by rfl) (by go_simp) ?_
                  (try simp only [Act.put, List.getElem_toArray, List.getElem_cons_succ, List.getElem_cons_zero, List.setIfInBounds_toArray, List.set_cons_zero, List.set_cons_succ])
                  refine wpList_skip (by kernel_rfl) ?_
                  (try simp only [Act.put, List.getElem_toArray, List.getElem_cons_succ, List.getElem_cons_zero, List.setIfInBounds_toArray, List.set_cons_zero, List.set_cons_succ])
                  refine wpList_skip (by kernel_rfl) ?_
                  (try simp only [Act.put, List.getElem_toArray, List.getElem_cons_succ, List.getElem_cons_zero, List.setIfInBounds_toArray, List.set_cons_zero, List.set_cons_succ])
                  refine wpList_skip (by kernel_rfl) ?_
                  (try simp only [Act.put, List.getElem_toArray, List.getElem_cons_succ, List.getElem_cons_zero, List.setIfInBounds_toArray, List.set_cons_zero, List.set_cons_succ])
                  refine wpList_val (.bool false) (by rfl) (run_pick_no (.tmp 91) (.tmp 94) (.const (.bool false)) _ rfl rfl rfl) ?_
                  (try simp only [Act.put, List.getElem_toArray, List.getElem_cons_succ, List.getElem_cons_zero, List.setIfInBounds_toArray, List.set_cons_zero, List.set_cons_succ])
                  refine wpList_nil ?_
                  go_upto_region 12 with fail
                  refine wp_region_lit ?_
                  refine wpList_val (.int .i64 3) (by rfl) (by go_simp) ?_
                  (try simp only [Act.put, List.getElem_toArray, List.getElem_cons_succ, List.getElem_cons_zero, List.setIfInBounds_toArray, List.set_cons_zero, List.set_cons_succ])
                  refine wpList_nil ?_
                  go_upto_region 13 with fail
                  refine wp_region_lit ?_
                  refine wpList_val (.bool true) (by rfl) (by go_simp) ?_
                  (try simp only [Act.put, List.getElem_toArray, List.getElem_cons_succ, List.getElem_cons_zero, List.setIfInBounds_toArray, List.set_cons_zero, List.set_cons_succ])
                  refine wpList_val (.bool true) (by rfl) (by go_simp) ?_
                  (try simp only [Act.put, List.getElem_toArray, List.getElem_cons_succ, List.getElem_cons_zero, List.setIfInBounds_toArray, List.set_cons_zero, List.set_cons_succ])
                  refine wpList_val (.pointer (some ⟨b6x, 13, none⟩)) (by rfl) (by go_simp) ?_
                  (try simp only [Act.put, List.getElem_toArray, List.getElem_cons_succ, List.getElem_cons_zero, List.setIfInBounds_toArray, List.set_cons_zero, List.set_cons_succ])
                  refine wpList_val (.agg (#[.int .u64 (x.v.r : Nat), .int .u32 (x.v.c : Nat), .int .u64 (x.v.b : Nat), .int .u16 (x.v.p : Nat)])) (by rfl) (kb_part K9.out 4 rfl 44 _ 13 (#[.int .u64 (x.v.r : Nat), .int .u32 (x.v.c : Nat), .int .u64 (x.v.b : Nat), .int .u16 (x.v.p : Nat)]).toList rfl rfl (part_of (by kernel_rfl)) Try.underlying44 rfl (sizeV)) ?_
                  (try simp only [Act.put, List.getElem_toArray, List.getElem_cons_succ, List.getElem_cons_zero, List.setIfInBounds_toArray, List.set_cons_zero, List.set_cons_succ])
                  refine wpList_val (.agg (vcA y)) (by rfl) (kb_all K9.out 5 rfl 44 _ rfl rfl Try.underlying44 rfl (sizeV)) ?_
                  (try simp only [Act.put, List.getElem_toArray, List.getElem_cons_succ, List.getElem_cons_zero, List.setIfInBounds_toArray, List.set_cons_zero, List.set_cons_succ])
                  refine wpList_val (.bool false) (by rfl) (by have q := fun W => equal_vc x.v y W; rw [he] at q; go_simp) ?_
                  (try simp only [Act.put, List.getElem_toArray, List.getElem_cons_succ, List.getElem_cons_zero, List.setIfInBounds_toArray, List.set_cons_zero, List.set_cons_succ])
                  refine wpList_val (.bool false) (by rfl) (run_pick_yes (.tmp 104) (.tmp 108) (.const (.bool false)) _ rfl rfl rfl) ?_
                  (try simp only [Act.put, List.getElem_toArray, List.getElem_cons_succ, List.getElem_cons_zero, List.setIfInBounds_toArray, List.set_cons_zero, List.set_cons_succ])
                  refine wpList_nil ?_
                  go_upto_region 15 with fail
                  refine wp_region_inv (I := fun L ac w' => ac = HrC5 x y n0 n1 n2 h m pr r0 r1 Q k b1 b2 b3 b5x b6x b6y b8 L ∧ Kb w [(b1, lpA x, 55), (b2, tvA y, 52), (b3, #[.int .i64 n0, .int .i64 n1, .int .i64 n2], 56), (b5x, cfA ⟨0, n1, h, 0, 0, 0⟩, 58), (b6x, poA ⟨0, 0, false, 0, pr, x.f4, true, true, x.f2, x.f3, r0, r1, (bif L 6 then 2 else m), (bif L 8 then (y.r : Nat) else (x.v.r : Nat)), (bif L 8 then (y.c : Nat) else (x.v.c : Nat)), (bif L 8 then (y.b : Nat) else (x.v.b : Nat)), (bif L 8 then (y.p : Nat) else (x.v.p : Nat)), (bif L 10 then n0 else x.k0), (bif L 12 then (IntKind.i64.wrap (3 * h)) else x.k1), x.k2, x.k3⟩, 62), (b6y, vcA y, 44), (b8, poA Q, 62)] w') (by kernel_rfl) (by kernel_rfl) ⟨by kernel_rfl, K9.out.drew⟩ ?_ ?_
                  · intro i hi Lx ac w' hI hL haft
                    obtain ⟨rfl, hw⟩ := hI
                    match i, hi with
                    | 0, _ =>
                      have g10 : (HrC5 x y n0 n1 n2 h m pr r0 r1 Q k b1 b2 b3 b5x b6x b6y b8 Lx).tmps[10]?.getD undef = .pointer (some ⟨b6y, 0, none⟩) := by kernel_rfl
                      have e10 : (HrC5 x y n0 n1 n2 h m pr r0 r1 Q k b1 b2 b3 b5x b6x b6y b8 Lx).eval (.tmp 10) = .pointer (some ⟨b6y, 0, none⟩) := by kernel_rfl
                      exact i_val rfl (.agg (vcA y)) w' (by rfl) (kb_all hw 5 rfl 44 _ rfl e10 Try.underlying44 rfl (sizeV)) ⟨by kernel_rfl, hw⟩
                    | 1, _ =>
                      have g7 : (HrC5 x y n0 n1 n2 h m pr r0 r1 Q k b1 b2 b3 b5x b6x b6y b8 Lx).tmps[7]?.getD undef = .int .i64 n0 := by kernel_rfl
                      have e7 : (HrC5 x y n0 n1 n2 h m pr r0 r1 Q k b1 b2 b3 b5x b6x b6y b8 Lx).eval (.tmp 7) = .int .i64 n0 := by kernel_rfl
                      exact i_val rfl (.int .i64 n0) w' (by rfl) (by go_simp) ⟨by kernel_rfl, hw⟩
                    | 2, _ =>
                      have g8 : (HrC5 x y n0 n1 n2 h m pr r0 r1 Q k b1 b2 b3 b5x b6x b6y b8 Lx).tmps[8]?.getD undef = .pointer (some ⟨b5x, 0, none⟩) := by kernel_rfl
                      have e8 : (HrC5 x y n0 n1 n2 h m pr r0 r1 Q k b1 b2 b3 b5x b6x b6y b8 Lx).eval (.tmp 8) = .pointer (some ⟨b5x, 0, none⟩) := by kernel_rfl
                      exact i_val rfl (.pointer (some ⟨b5x, 2, none⟩)) w' (by rfl) (by go_simp) ⟨by kernel_rfl, hw⟩
                    | 3, _ =>
                      have h2 := haft 2 (by decide)
                      have e112 : (HrC5 x y n0 n1 n2 h m pr r0 r1 Q k b1 b2 b3 b5x b6x b6y b8 Lx).eval (.tmp 112) = .pointer (some ⟨b5x, 2, none⟩) := by show (bif Lx 2 then _ else _) = _; rw [h2]; rfl
                      have g112 : (HrC5 x y n0 n1 n2 h m pr r0 r1 Q k b1 b2 b3 b5x b6x b6y b8 Lx).tmps[112]?.getD undef = .pointer (some ⟨b5x, 2, none⟩) := by show (bif Lx 2 then _ else _) = _; rw [h2]; rfl
                      exact i_val rfl (.int .i64 h) w' (by rfl) (by have q : w'.cell? ⟨b5x, 2, none⟩ = some (.int .i64 h) := Kb.cell (i := 3) hw rfl (by rfl); go_simp) ⟨by kernel_rfl, hw⟩
                    | 4, _ =>
                      have h3 := haft 3 (by decide)
                      have e113 : (HrC5 x y n0 n1 n2 h m pr r0 r1 Q k b1 b2 b3 b5x b6x b6y b8 Lx).eval (.tmp 113) = .int .i64 h := by show (bif Lx 3 then _ else _) = _; rw [h3]; rfl
                      have g113 : (HrC5 x y n0 n1 n2 h m pr r0 r1 Q k b1 b2 b3 b5x b6x b6y b8 Lx).tmps[113]?.getD undef = .int .i64 h := by show (bif Lx 3 then _ else _) = _; rw [h3]; rfl
                      exact i_val rfl (.int .i64 (IntKind.i64.wrap (3 * h))) w' (by rfl) (by go_simp) ⟨by kernel_rfl, hw⟩
                    | 5, _ =>
                      have g9 : (HrC5 x y n0 n1 n2 h m pr r0 r1 Q k b1 b2 b3 b5x b6x b6y b8 Lx).tmps[9]?.getD undef = .pointer (some ⟨b6x, 0, none⟩) := by kernel_rfl
                      have e9 : (HrC5 x y n0 n1 n2 h m pr r0 r1 Q k b1 b2 b3 b5x b6x b6y b8 Lx).eval (.tmp 9) = .pointer (some ⟨b6x, 0, none⟩) := by kernel_rfl
                      exact i_val rfl (.pointer (some ⟨b6x, 12, none⟩)) w' (by rfl) (by go_simp) ⟨by kernel_rfl, hw⟩
                    | 6, _ =>
                      have h5 := haft 5 (by decide)
                      have e115 : (HrC5 x y n0 n1 n2 h m pr r0 r1 Q k b1 b2 b3 b5x b6x b6y b8 Lx).eval (.tmp 115) = .pointer (some ⟨b6x, 12, none⟩) := by show (bif Lx 5 then _ else _) = _; rw [h5]; rfl
                      have g115 : (HrC5 x y n0 n1 n2 h m pr r0 r1 Q k b1 b2 b3 b5x b6x b6y b8 Lx).tmps[115]?.getD undef = .pointer (some ⟨b6x, 12, none⟩) := by show (bif Lx 5 then _ else _) = _; rw [h5]; rfl
                      exact i_wp rfl (by rfl) (wp_store_cell 3 _ _ rfl ⟨b6x, 12, none⟩ (.int .i64 2) e115 rfl (kb_run_set hw (i := 4) rfl 3 12 (.int .i64 (bif Lx 6 then 2 else m)) (.int .i64 2) (by rfl) (fun W h1 h2 => by go_simp)) ⟨by kernel_rfl, cast_blk (Kb.set (i := 4) hw rfl 12 (.int .i64 2)) (by rfl)⟩)
                    | 7, _ =>
                      have g9 : (HrC5 x y n0 n1 n2 h m pr r0 r1 Q k b1 b2 b3 b5x b6x b6y b8 Lx).tmps[9]?.getD undef = .pointer (some ⟨b6x, 0, none⟩) := by kernel_rfl
                      have e9 : (HrC5 x y n0 n1 n2 h m pr r0 r1 Q k b1 b2 b3 b5x b6x b6y b8 Lx).eval (.tmp 9) = .pointer (some ⟨b6x, 0, none⟩) := by kernel_rfl
                      exact i_val rfl (.pointer (some ⟨b6x, 13, none⟩)) w' (by rfl) (by go_simp) ⟨by kernel_rfl, hw⟩
                    | 8, _ =>
                      have h0 := haft 0 (by decide)
                      have e110 : (HrC5 x y n0 n1 n2 h m pr r0 r1 Q k b1 b2 b3 b5x b6x b6y b8 Lx).eval (.tmp 110) = .agg (vcA y) := by show (bif Lx 0 then _ else _) = _; rw [h0]; rfl
                      have g110 : (HrC5 x y n0 n1 n2 h m pr r0 r1 Q k b1 b2 b3 b5x b6x b6y b8 Lx).tmps[110]?.getD undef = .agg (vcA y) := by show (bif Lx 0 then _ else _) = _; rw [h0]; rfl
                      have h7 := haft 7 (by decide)
                      have e116 : (HrC5 x y n0 n1 n2 h m pr r0 r1 Q k b1 b2 b3 b5x b6x b6y b8 Lx).eval (.tmp 116) = .pointer (some ⟨b6x, 13, none⟩) := by show (bif Lx 7 then _ else _) = _; rw [h7]; rfl
                      have g116 : (HrC5 x y n0 n1 n2 h m pr r0 r1 Q k b1 b2 b3 b5x b6x b6y b8 Lx).tmps[116]?.getD undef = .pointer (some ⟨b6x, 13, none⟩) := by show (bif Lx 7 then _ else _) = _; rw [h7]; rfl
                      exact i_wp rfl (by rfl) (wp_store_mid 44 _ _ rfl b6x 13 (vcA y) e116 e110 ((Kb.at (i := 4) hw rfl).thereN 13 4 (Nat.le_of_ble_eq_true (by kernel_rfl))) (sizeV) (by kernel_rfl) ⟨by kernel_rfl, cast_blk (Kb.mid (i := 4) hw rfl 13 (vcA y).toList) (by rfl)⟩)
                    | 9, _ =>
                      have g9 : (HrC5 x y n0 n1 n2 h m pr r0 r1 Q k b1 b2 b3 b5x b6x b6y b8 Lx).tmps[9]?.getD undef = .pointer (some ⟨b6x, 0, none⟩) := by kernel_rfl
                      have e9 : (HrC5 x y n0 n1 n2 h m pr r0 r1 Q k b1 b2 b3 b5x b6x b6y b8 Lx).eval (.tmp 9) = .pointer (some ⟨b6x, 0, none⟩) := by kernel_rfl
                      exact i_val rfl (.pointer (some ⟨b6x, 17, none⟩)) w' (by rfl) (by go_simp) ⟨by kernel_rfl, hw⟩
                    | 10, _ =>
                      have h1 := haft 1 (by decide)
                      have e111 : (HrC5 x y n0 n1 n2 h m pr r0 r1 Q k b1 b2 b3 b5x b6x b6y b8 Lx).eval (.tmp 111) = .int .i64 n0 := by show (bif Lx 1 then _ else _) = _; rw [h1]; rfl
                      have g111 : (HrC5 x y n0 n1 n2 h m pr r0 r1 Q k b1 b2 b3 b5x b6x b6y b8 Lx).tmps[111]?.getD undef = .int .i64 n0 := by show (bif Lx 1 then _ else _) = _; rw [h1]; rfl
                      have h9 := haft 9 (by decide)
                      have e117 : (HrC5 x y n0 n1 n2 h m pr r0 r1 Q k b1 b2 b3 b5x b6x b6y b8 Lx).eval (.tmp 117) = .pointer (some ⟨b6x, 17, none⟩) := by show (bif Lx 9 then _ else _) = _; rw [h9]; rfl
                      have g117 : (HrC5 x y n0 n1 n2 h m pr r0 r1 Q k b1 b2 b3 b5x b6x b6y b8 Lx).tmps[117]?.getD undef = .pointer (some ⟨b6x, 17, none⟩) := by show (bif Lx 9 then _ else _) = _; rw [h9]; rfl
                      exact i_wp rfl (by rfl) (wp_store_cell 3 _ _ rfl ⟨b6x, 17, none⟩ (.int .i64 n0) e117 e111 (kb_run_set hw (i := 4) rfl 3 17 (.int .i64 (bif Lx 10 then n0 else x.k0)) (.int .i64 n0) (by rfl) (fun W h1 h2 => by go_simp)) ⟨by kernel_rfl, cast_blk (Kb.set (i := 4) hw rfl 17 (.int .i64 n0)) (by rfl)⟩)
                    | 11, _ =>
                      have g9 : (HrC5 x y n0 n1 n2 h m pr r0 r1 Q k b1 b2 b3 b5x b6x b6y b8 Lx).tmps[9]?.getD undef = .pointer (some ⟨b6x, 0, none⟩) := by kernel_rfl
                      have e9 : (HrC5 x y n0 n1 n2 h m pr r0 r1 Q k b1 b2 b3 b5x b6x b6y b8 Lx).eval (.tmp 9) = .pointer (some ⟨b6x, 0, none⟩) := by kernel_rfl
                      exact i_val rfl (.pointer (some ⟨b6x, 18, none⟩)) w' (by rfl) (by go_simp) ⟨by kernel_rfl, hw⟩
                    | 12, _ =>
                      have h4 := haft 4 (by decide)
                      have e114 : (HrC5 x y n0 n1 n2 h m pr r0 r1 Q k b1 b2 b3 b5x b6x b6y b8 Lx).eval (.tmp 114) = .int .i64 (IntKind.i64.wrap (3 * h)) := by show (bif Lx 4 then _ else _) = _; rw [h4]; rfl
                      have g114 : (HrC5 x y n0 n1 n2 h m pr r0 r1 Q k b1 b2 b3 b5x b6x b6y b8 Lx).tmps[114]?.getD undef = .int .i64 (IntKind.i64.wrap (3 * h)) := by show (bif Lx 4 then _ else _) = _; rw [h4]; rfl
                      have h11 := haft 11 (by decide)
                      have e118 : (HrC5 x y n0 n1 n2 h m pr r0 r1 Q k b1 b2 b3 b5x b6x b6y b8 Lx).eval (.tmp 118) = .pointer (some ⟨b6x, 18, none⟩) := by show (bif Lx 11 then _ else _) = _; rw [h11]; rfl
                      have g118 : (HrC5 x y n0 n1 n2 h m pr r0 r1 Q k b1 b2 b3 b5x b6x b6y b8 Lx).tmps[118]?.getD undef = .pointer (some ⟨b6x, 18, none⟩) := by show (bif Lx 11 then _ else _) = _; rw [h11]; rfl
                      exact i_wp rfl (by rfl) (wp_store_cell 3 _ _ rfl ⟨b6x, 18, none⟩ (.int .i64 (IntKind.i64.wrap (3 * h))) e118 e114 (kb_run_set hw (i := 4) rfl 3 18 (.int .i64 (bif Lx 12 then (IntKind.i64.wrap (3 * h)) else x.k1)) (.int .i64 (IntKind.i64.wrap (3 * h))) (by rfl) (fun W h1 h2 => by go_simp)) ⟨by kernel_rfl, cast_blk (Kb.set (i := 4) hw rfl 18 (.int .i64 (IntKind.i64.wrap (3 * h)))) (by rfl)⟩)
                    | k + 13, h =>
                      exfalso
                      have h2 : k + 13 < 13 := h
                      omega
                  intro Lx ac w10 hI hall
                  obtain ⟨rfl, hw⟩ := hI
                  have hfr : HrC5 x y n0 n1 n2 h m pr r0 r1 Q k b1 b2 b3 b5x b6x b6y b8 Lx = { tmps := #[.agg (lpA x), .agg (tvA y), .agg (#[.int .i64 n0, .int .i64 n1, .int .i64 n2]), .pointer (some ⟨b1, 0, none⟩), .pointer (some ⟨b2, 0, none⟩), .pointer (some ⟨b3, 0, none⟩), .bool false, .int .i64 n0, .pointer (some ⟨b5x, 0, none⟩), .pointer (some ⟨b6x, 0, none⟩), .pointer (some ⟨b6y, 0, none⟩), .pointer (some ⟨b8, 0, none⟩), .int .i64 k, .bool true, .bool true, .int .i64 3, .bool true, .bool false, .pointer (some ⟨b3, 0, none⟩), .int .i64 n0, .pointer (some ⟨b3, 1, none⟩), .int .i64 n1, .pointer (some ⟨b3, 2, none⟩), .int .i64 n2, .int .i64 h, .agg (cfA ⟨0, n1, h, 0, 0, 0⟩), .agg (lpA x), .agg (poA ⟨0, 0, false, 0, pr, x.f4, true, true, x.f2, x.f3, r0, r1, m, (x.v.r : Nat), (x.v.c : Nat), (x.v.b : Nat), (x.v.p : Nat), x.k0, x.k1, x.k2, x.k3⟩), .agg (tvA y), .agg (vcA y), .tuple #[.agg (poA Q), .int .i64 k], .agg (poA ⟨0, 0, false, 0, pr, x.f4, true, true, x.f2, x.f3, r0, r1, m, (x.v.r : Nat), (x.v.c : Nat), (x.v.b : Nat), (x.v.p : Nat), x.k0, x.k1, x.k2, x.k3⟩), .agg (vcA y), .int .i64 n0, .agg (cfA ⟨0, n1, h, 0, 0, 0⟩), .tuple #[.agg (poA Q), .int .i64 k], .agg (poA Q), .int .i64 k, .pointer (some ⟨b6x, 7, none⟩), .bool true, .bool true, .pointer (some ⟨b6x, 6, none⟩), .bool true, .bool true, .bool false, .bool false, .int .i64 n0, .bool false, .bool false, .bool false, .int .i64 n0, .pointer (some ⟨b5x, 1, none⟩), .int .i64 n1, .bool false, .bool false, undef, undef, undef, undef, undef, undef, undef, .pointer (some ⟨b6x, 12, none⟩), .int .i64 m, .bool true, .bool true, .bool true, .pointer (some ⟨b6y, 2, none⟩), .int .u64 (y.b : Nat), .pointer (some ⟨b6x, 13, none⟩), .pointer (some ⟨b6x, 15, none⟩), .int .u64 (x.v.b : Nat), .bool true, .bool true, .bool true, .pointer (some ⟨b6y, 3, none⟩), .int .u16 (y.p : Nat), .pointer (some ⟨b6x, 13, none⟩), .pointer (some ⟨b6x, 16, none⟩), .int .u16 (x.v.p : Nat), .bool true, .bool true, .bool true, .bool false, .bool false, undef, undef, undef, undef, undef, .bool false, .bool false, undef, undef, undef, .bool false, undef, undef, undef, undef, undef, undef, undef, .bool true, .bool true, .pointer (some ⟨b6x, 13, none⟩), .agg (#[.int .u64 (x.v.r : Nat), .int .u32 (x.v.c : Nat), .int .u64 (x.v.b : Nat), .int .u16 (x.v.p : Nat)]), .agg (vcA y), .bool false, .bool false, .agg (vcA y), .int .i64 n0, .pointer (some ⟨b5x, 2, none⟩), .int .i64 h, .int .i64 (IntKind.i64.wrap (3 * h)), .pointer (some ⟨b6x, 12, none⟩), .pointer (some ⟨b6x, 13, none⟩), .pointer (some ⟨b6x, 17, none⟩), .pointer (some ⟨b6x, 18, none⟩), undef, undef, undef, undef, undef, undef, undef, undef], defers := [] } := by unfold HrC5; simp only [hall 0 (by decide), hall 1 (by decide), hall 2 (by decide), hall 3 (by decide), hall 4 (by decide), hall 5 (by decide), hall 7 (by decide), hall 9 (by decide), hall 11 (by decide), cond_true]
                  rw [hfr]
                  clear hfr
                  have hL6 := hall 6 (by decide)
                  have hL8 := hall 8 (by decide)
                  have hL10 := hall 10 (by decide)
                  have hL12 := hall 12 (by decide)
                  simp only [hL6, hL8, hL10, hL12, cond_true] at hw
                  have K10 := Lib.hid (show Kb w [(b1, lpA x, 55), (b2, tvA y, 52), (b3, #[.int .i64 n0, .int .i64 n1, .int .i64 n2], 56), (b5x, cfA ⟨0, n1, h, 0, 0, 0⟩, 58), (b6x, poA ⟨0, 0, false, 0, pr, x.f4, true, true, x.f2, x.f3, r0, r1, 2, (y.r : Nat), (y.c : Nat), (y.b : Nat), (y.p : Nat), n0, (IntKind.i64.wrap (3 * h)), x.k2, x.k3⟩, 62), (b6y, vcA y, 44), (b8, poA Q, 62)] w10 from hw)
                  clear hw hall hL6 hL8 hL10 hL12
                  go_upto_region 16 with fail
                  refine wp_region_lit ?_
                  refine wpList_val (.int .i64 k) (by rfl) (by go_simp) ?_
                  (try simp only [Act.put, List.getElem_toArray, List.getElem_cons_succ, List.getElem_cons_zero, List.setIfInBounds_toArray, List.set_cons_zero, List.set_cons_succ])
                  refine wpList_val (.int .i64 3) (by rfl) (by go_simp) ?_
                  (try simp only [Act.put, List.getElem_toArray, List.getElem_cons_succ, List.getElem_cons_zero, List.setIfInBounds_toArray, List.set_cons_zero, List.set_cons_succ])
                  refine wpList_val (.bool true) (by rfl) (by have q := HK2.out; go_simp) ?_
                  (try simp only [Act.put, List.getElem_toArray, List.getElem_cons_succ, List.getElem_cons_zero, List.setIfInBounds_toArray, List.set_cons_zero, List.set_cons_succ])
                  refine wpList_val (.bool true) (by rfl) (by go_simp) ?_
                  (try simp only [Act.put, List.getElem_toArray, List.getElem_cons_succ, List.getElem_cons_zero, List.setIfInBounds_toArray, List.set_cons_zero, List.set_cons_succ])
                  refine wpList_val (.agg (poA Q)) (by rfl) (kb_all K10.out 6 rfl 62 _ rfl rfl Try.underlying62 rfl (size50)) ?_
                  (try simp only [Act.put, List.getElem_toArray, List.getElem_cons_succ, List.getElem_cons_zero, List.setIfInBounds_toArray, List.set_cons_zero, List.set_cons_succ])
                  refine wpList_val (.agg (poA ⟨0, 0, false, 0, pr, x.f4, true, true, x.f2, x.f3, r0, r1, 2, (y.r : Nat), (y.c : Nat), (y.b : Nat), (y.p : Nat), n0, (IntKind.i64.wrap (3 * h)), x.k2, x.k3⟩)) (by rfl) (kb_all K10.out 4 rfl 62 _ rfl rfl Try.underlying62 rfl (size50)) ?_
                  (try simp only [Act.put, List.getElem_toArray, List.getElem_cons_succ, List.getElem_cons_zero, List.setIfInBounds_toArray, List.set_cons_zero, List.set_cons_succ])
                  refine wpList_val (.bool true) (by rfl) (by have q := eq_po2 HQ2.out; go_simp) ?_
                  (try simp only [Act.put, List.getElem_toArray, List.getElem_cons_succ, List.getElem_cons_zero, List.setIfInBounds_toArray, List.set_cons_zero, List.set_cons_succ])
                  refine wpList_val (.bool true) (by rfl) (run_pick_yes (.tmp 122) (.tmp 125) (.const (.bool false)) _ rfl rfl rfl) ?_
                  (try simp only [Act.put, List.getElem_toArray, List.getElem_cons_succ, List.getElem_cons_zero, List.setIfInBounds_toArray, List.set_cons_zero, List.set_cons_succ])
                  refine wpList_val (.bool true) (by rfl) (by go_simp) ?_
                  (try simp only [Act.put, List.getElem_toArray, List.getElem_cons_succ, List.getElem_cons_zero, List.setIfInBounds_toArray, List.set_cons_zero, List.set_cons_succ])
                  refine wpList_nil ?_
                  go_wp2_with fail
                  go_ret
                  exact ⟨ret_bool (rfl), K10.out.below⟩
                case true =>
                  have ht : takesB ⟨0, 0, false, 0, pr, x.f4, true, true, x.f2, x.f3, r0, r1, m, (x.v.r : Nat), (x.v.c : Nat), (x.v.b : Nat), (x.v.p : Nat), x.k0, x.k1, x.k2, x.k3⟩ x.v y = true := by simp [takesB, anewB, HI.out, HBN.out, HPN.out]
                  have hQ : Q = ⟨0, 0, false, 0, pr, x.f4, true, true, x.f2, x.f3, r0, r1, 2, (y.r : Nat), (y.c : Nat), (y.b : Nat), (y.p : Nat), n0, (IntKind.i64.wrap (3 * h)), x.k2, x.k3⟩ := by rw [HQ.out]; unfold hearP; rw [HO.out, ht]; rfl
                  have hK : k = 2 := by rw [HK.out]; unfold hearN; rw [HO.out, ht]; simp [HI.out, he]
                  have HQ2 := Lib.hid hQ
                  have HK2 := Lib.hid hK
                  clear hQ hK
                  clear ht
                  refine wp_region_lit ?_
                  refine wpList_val (.pointer (some ⟨b6x, 12, none⟩)) (by rfl) (by go_simp) ?_
                  (try simp only [Act.put, List.getElem_toArray, List.getElem_cons_succ, List.getElem_cons_zero, List.setIfInBounds_toArray, List.set_cons_zero, List.set_cons_succ])
                  refine wpList_val (.int .i64 m) (by rfl) (by have q : w9.cell? ⟨b6x, 12, none⟩ = some (.int .i64 m) := K9.out.cell (i := 4) rfl (by rfl); go_simp) ?_
                  (try simp only [Act.put, List.getElem_toArray, List.getElem_cons_succ, List.getElem_cons_zero, List.setIfInBounds_toArray, List.set_cons_zero, List.set_cons_succ])
                  refine wpList_val (.bool true) (by rfl) (by have q := HI.out; go_simp) ?_
                  (try simp only [Act.put, List.getElem_toArray, List.getElem_cons_succ, List.getElem_cons_zero, List.setIfInBounds_toArray, List.set_cons_zero, List.set_cons_succ])
                  refine wpList_val (.bool true) (by rfl) (by go_simp) ?_
                  (try simp only [Act.put, List.getElem_toArray, List.getElem_cons_succ, List.getElem_cons_zero, List.setIfInBounds_toArray, List.set_cons_zero, List.set_cons_succ])
                  refine wpList_nil ?_
                  go_upto_region 9 with fail
                  refine wp_region_lit ?_
                  refine wpList_val (.bool true) (by rfl) (by go_simp) ?_
                  (try simp only [Act.put, List.getElem_toArray, List.getElem_cons_succ, List.getElem_cons_zero, List.setIfInBounds_toArray, List.set_cons_zero, List.set_cons_succ])
                  refine wpList_val (.bool true) (by rfl) (by go_simp) ?_
                  (try simp only [Act.put, List.getElem_toArray, List.getElem_cons_succ, List.getElem_cons_zero, List.setIfInBounds_toArray, List.set_cons_zero, List.set_cons_succ])
                  refine wpList_val (.pointer (some ⟨b6y, 2, none⟩)) (by rfl) (by go_simp) ?_
                  (try simp only [Act.put, List.getElem_toArray, List.getElem_cons_succ, List.getElem_cons_zero, List.setIfInBounds_toArray, List.set_cons_zero, List.set_cons_succ])
                  refine wpList_val (.int .u64 (y.b : Nat)) (by rfl) (by have q : w9.cell? ⟨b6y, 2, none⟩ = some (.int .u64 (y.b : Nat)) := K9.out.cell (i := 5) rfl (by rfl); go_simp) ?_
                  (try simp only [Act.put, List.getElem_toArray, List.getElem_cons_succ, List.getElem_cons_zero, List.setIfInBounds_toArray, List.set_cons_zero, List.set_cons_succ])
                  refine wpList_val (.pointer (some ⟨b6x, 13, none⟩)) (by rfl) (by go_simp) ?_
                  (try simp only [Act.put, List.getElem_toArray, List.getElem_cons_succ, List.getElem_cons_zero, List.setIfInBounds_toArray, List.set_cons_zero, List.set_cons_succ])
                  refine wpList_val (.pointer (some ⟨b6x, 15, none⟩)) (by rfl) (by go_simp) ?_
                  (try simp only [Act.put, List.getElem_toArray, List.getElem_cons_succ, List.getElem_cons_zero, List.setIfInBounds_toArray, List.set_cons_zero, List.set_cons_succ])
                  refine wpList_val (.int .u64 (x.v.b : Nat)) (by rfl) (by have q : w9.cell? ⟨b6x, 15, none⟩ = some (.int .u64 (x.v.b : Nat)) := K9.out.cell (i := 4) rfl (by rfl); go_simp) ?_
                  (try simp only [Act.put, List.getElem_toArray, List.getElem_cons_succ, List.getElem_cons_zero, List.setIfInBounds_toArray, List.set_cons_zero, List.set_cons_succ])
                  refine wpList_val (.bool true) (by rfl) (by have q := HB.out; go_simp) ?_
                  (try simp only [Act.put, List.getElem_toArray, List.getElem_cons_succ, List.getElem_cons_zero, List.setIfInBounds_toArray, List.set_cons_zero, List.set_cons_succ])
                  refine wpList_val (.bool true) (by rfl) (run_pick_yes (.tmp 66) (.tmp 72) (.const (.bool false)) _ rfl rfl rfl) ?_
                  (try simp only [Act.put, List.getElem_toArray, List.getElem_cons_succ, List.getElem_cons_zero, List.setIfInBounds_toArray, List.set_cons_zero, List.set_cons_succ])
                  refine wpList_val (.bool true) (by rfl) (by go_simp) ?_
                  (try simp only [Act.put, List.getElem_toArray, List.getElem_cons_succ, List.getElem_cons_zero, List.setIfInBounds_toArray, List.set_cons_zero, List.set_cons_succ])
                  refine wpList_val (.pointer (some ⟨b6y, 3, none⟩)) (by rfl) (by go_simp) ?_
                  (try simp only [Act.put, List.getElem_toArray, List.getElem_cons_succ, List.getElem_cons_zero, List.setIfInBounds_toArray, List.set_cons_zero, List.set_cons_succ])
                  refine wpList_val (.int .u16 (y.p : Nat)) (by rfl) (by have q : w9.cell? ⟨b6y, 3, none⟩ = some (.int .u16 (y.p : Nat)) := K9.out.cell (i := 5) rfl (by rfl); go_simp) ?_
                  (try simp only [Act.put, List.getElem_toArray, List.getElem_cons_succ, List.getElem_cons_zero, List.setIfInBounds_toArray, List.set_cons_zero, List.set_cons_succ])
                  refine wpList_val (.pointer (some ⟨b6x, 13, none⟩)) (by rfl) (by go_simp) ?_
                  (try simp only [Act.put, List.getElem_toArray, List.getElem_cons_succ, List.getElem_cons_zero, List.setIfInBounds_toArray, List.set_cons_zero, List.set_cons_succ])
                  refine wpList_val (.pointer (some ⟨b6x, 16, none⟩)) (by rfl) (by go_simp) ?_
                  (try simp only [Act.put, List.getElem_toArray, List.getElem_cons_succ, List.getElem_cons_zero, List.setIfInBounds_toArray, List.set_cons_zero, List.set_cons_succ])
                  refine wpList_val (.int .u16 (x.v.p : Nat)) (by rfl) (by have q : w9.cell? ⟨b6x, 16, none⟩ = some (.int .u16 (x.v.p : Nat)) := K9.out.cell (i := 4) rfl (by rfl); go_simp) ?_
                  (try simp only [Act.put, List.getElem_toArray, List.getElem_cons_succ, List.getElem_cons_zero, List.setIfInBounds_toArray, List.set_cons_zero, List.set_cons_succ])
                  refine wpList_val (.bool true) (by rfl) (by have q := HP.out; go_simp) ?_
                  (try simp only [Act.put, List.getElem_toArray, List.getElem_cons_succ, List.getElem_cons_zero, List.setIfInBounds_toArray, List.set_cons_zero, List.set_cons_succ])
                  refine wpList_val (.bool true) (by rfl) (run_pick_yes (.tmp 74) (.tmp 80) (.const (.bool false)) _ rfl rfl rfl) ?_
                  (try simp only [Act.put, List.getElem_toArray, List.getElem_cons_succ, List.getElem_cons_zero, List.setIfInBounds_toArray, List.set_cons_zero, List.set_cons_succ])
                  refine wpList_val (.bool true) (by rfl) (by go_simp) ?_
                  (try simp only [Act.put, List.getElem_toArray, List.getElem_cons_succ, List.getElem_cons_zero, List.setIfInBounds_toArray, List.set_cons_zero, List.set_cons_succ])
                  refine wpList_nil ?_
                  go_upto_region 10 with fail
                  refine wp_region_lit ?_
                  refine wpList_val (.bool true) (by rfl) (by go_simp) ?_
                  (try simp only [Act.put, List.getElem_toArray, List.getElem_cons_succ, List.getElem_cons_zero, List.setIfInBounds_toArray, List.set_cons_zero, List.set_cons_succ])
                  refine wpList_val (.bool false) (by rfl) (by go_simp) ?_
                  (try simp only [Act.put, List.getElem_toArray, List.getElem_cons_succ, List.getElem_cons_zero, List.setIfInBounds_toArray, List.set_cons_zero, List.set_cons_succ])
                  refine wpList_val (.bool false) (by rfl) (by go_simp) ?_
                  (try simp only [Act.put, List.getElem_toArray, List.getElem_cons_succ, List.getElem_cons_zero, List.setIfInBounds_toArray, List.set_cons_zero, List.set_cons_succ])
                  refine wpList_skip (by kernel_rfl) ?_
                  (try simp only [Act.put, List.getElem_toArray, List.getElem_cons_succ, List.getElem_cons_zero, List.setIfInBounds_toArray, List.set_cons_zero, List.set_cons_succ])
                  refine wpList_skip (by kernel_rfl) ?_
                  (try simp only [Act.put, List.getElem_toArray, List.getElem_cons_succ, List.getElem_cons_zero, List.setIfInBounds_toArray, List.set_cons_zero, List.set_cons_succ])
                  refine wpList_skip (by kernel_rfl) ?_
                  (try simp only [Act.put, List.getElem_toArray, List.getElem_cons_succ, List.getElem_cons_zero, List.setIfInBounds_toArray, List.set_cons_zero, List.set_cons_succ])
                  refine wpList_skip (by kernel_rfl) ?_
                  (try simp only [Act.put, List.getElem_toArray, List.getElem_cons_succ, List.getElem_cons_zero, List.setIfInBounds_toArray, List.set_cons_zero, List.set_cons_succ])
                  refine wpList_skip (by kernel_rfl) ?_
                  (try simp only [Act.put, List.getElem_toArray, List.getElem_cons_succ, List.getElem_cons_zero, List.setIfInBounds_toArray, List.set_cons_zero, List.set_cons_succ])
                  refine wpList_val (.bool false) (by rfl) (run_pick_no (.tmp 84) (.tmp 89) (.const (.bool false)) _ rfl rfl rfl) ?_
                  (try simp only [Act.put, List.getElem_toArray, List.getElem_cons_succ, List.getElem_cons_zero, List.setIfInBounds_toArray, List.set_cons_zero, List.set_cons_succ])
                  refine wpList_val (.bool false) (by rfl) (by go_simp) ?_
                  (try simp only [Act.put, List.getElem_toArray, List.getElem_cons_succ, List.getElem_cons_zero, List.setIfInBounds_toArray, List.set_cons_zero, List.set_cons_succ])
                  refine wpList_skip (by kernel_rfl) ?_
                  (try simp only [Act.put, List.getElem_toArray, List.getElem_cons_succ, List.getElem_cons_zero, List.setIfInBounds_toArray, List.set_cons_zero, List.set_cons_succ])
                  refine wpList_skip (by kernel_rfl) ?_
                  (try simp only [Act.put, List.getElem_toArray, List.getElem_cons_succ, List.getElem_cons_zero, List.setIfInBounds_toArray, List.set_cons_zero, List.set_cons_succ])
                  refine wpList_skip (by kernel_rfl) ?_
                  (try simp only [Act.put, List.getElem_toArray, List.getElem_cons_succ, List.getElem_cons_zero, List.setIfInBounds_toArray, List.set_cons_zero, List.set_cons_succ])
                  refine wpList_val (.bool false) (by rfl) (run_pick_no (.tmp 91) (.tmp 94) (.const (.bool false)) _ rfl rfl rfl) ?_
                  (try simp only [Act.put, List.getElem_toArray, List.getElem_cons_succ, List.getElem_cons_zero, List.setIfInBounds_toArray, List.set_cons_zero, List.set_cons_succ])
                  refine wpList_nil ?_
                  go_upto_region 12 with fail
                  refine wp_region_lit ?_
                  refine wpList_val (.int .i64 3) (by rfl) (by go_simp) ?_
                  (try simp only [Act.put, List.getElem_toArray, List.getElem_cons_succ, List.getElem_cons_zero, List.setIfInBounds_toArray, List.set_cons_zero, List.set_cons_succ])
                  refine wpList_nil ?_
                  go_upto_region 13 with fail
                  refine wp_region_lit ?_
                  refine wpList_val (.bool true) (by rfl) (by go_simp) ?_
                  (try simp only [Act.put, List.getElem_toArray, List.getElem_cons_succ, List.getElem_cons_zero, List.setIfInBounds_toArray, List.set_cons_zero, List.set_cons_succ])
                  refine wpList_val (.bool true) (by rfl) (by go_simp) ?_
                  (try simp only [Act.put, List.getElem_toArray, List.getElem_cons_succ, List.getElem_cons_zero, List.setIfInBounds_toArray, List.set_cons_zero, List.set_cons_succ])
                  refine wpList_val (.pointer (some ⟨b6x, 13, none⟩)) (by rfl) (by go_simp) ?_
                  (try simp only [Act.put, List.getElem_toArray, List.getElem_cons_succ, List.getElem_cons_zero, List.setIfInBounds_toArray, List.set_cons_zero, List.set_cons_succ])
                  refine wpList_val (.agg (#[.int .u64 (x.v.r : Nat), .int .u32 (x.v.c : Nat), .int .u64 (x.v.b : Nat), .int .u16 (x.v.p : Nat)])) (by rfl) (kb_part K9.out 4 rfl 44 _ 13 (#[.int .u64 (x.v.r : Nat), .int .u32 (x.v.c : Nat), .int .u64 (x.v.b : Nat), .int .u16 (x.v.p : Nat)]).toList rfl rfl (part_of (by kernel_rfl)) Try.underlying44 rfl (sizeV)) ?_
                  (try simp only [Act.put, List.getElem_toArray, List.getElem_cons_succ, List.getElem_cons_zero, List.setIfInBounds_toArray, List.set_cons_zero, List.set_cons_succ])
                  refine wpList_val (.agg (vcA y)) (by rfl) (kb_all K9.out 5 rfl 44 _ rfl rfl Try.underlying44 rfl (sizeV)) ?_
                  (try simp only [Act.put, List.getElem_toArray, List.getElem_cons_succ, List.getElem_cons_zero, List.setIfInBounds_toArray, List.set_cons_zero, List.set_cons_succ])
                  refine wpList_val (.bool true) (by rfl) (by have q := fun W => equal_vc x.v y W; rw [he] at q; go_simp) ?_
                  (try simp only [Act.put, List.getElem_toArray, List.getElem_cons_succ, List.getElem_cons_zero, List.setIfInBounds_toArray, List.set_cons_zero, List.set_cons_succ])
                  refine wpList_val (.bool true) (by rfl) (run_pick_yes (.tmp 104) (.tmp 108) (.const (.bool false)) _ rfl rfl rfl) ?_
                  (try simp only [Act.put, List.getElem_toArray, List.getElem_cons_succ, List.getElem_cons_zero, List.setIfInBounds_toArray, List.set_cons_zero, List.set_cons_succ])
                  refine wpList_nil ?_
                  go_upto_region 14 with fail
                  refine wp_region_lit ?_
                  refine wpList_val (.int .i64 2) (by rfl) (by go_simp) ?_
                  (try simp only [Act.put, List.getElem_toArray, List.getElem_cons_succ, List.getElem_cons_zero, List.setIfInBounds_toArray, List.set_cons_zero, List.set_cons_succ])
                  refine wpList_nil ?_
                  go_upto_region 15 with fail
                  refine wp_region_inv (I := fun L ac w' => ac = HrC6 x y n0 n1 n2 h m pr r0 r1 Q k b1 b2 b3 b5x b6x b6y b8 L ∧ Kb w [(b1, lpA x, 55), (b2, tvA y, 52), (b3, #[.int .i64 n0, .int .i64 n1, .int .i64 n2], 56), (b5x, cfA ⟨0, n1, h, 0, 0, 0⟩, 58), (b6x, poA ⟨0, 0, false, 0, pr, x.f4, true, true, x.f2, x.f3, r0, r1, (bif L 6 then 2 else m), (bif L 8 then (y.r : Nat) else (x.v.r : Nat)), (bif L 8 then (y.c : Nat) else (x.v.c : Nat)), (bif L 8 then (y.b : Nat) else (x.v.b : Nat)), (bif L 8 then (y.p : Nat) else (x.v.p : Nat)), (bif L 10 then n0 else x.k0), (bif L 12 then (IntKind.i64.wrap (3 * h)) else x.k1), x.k2, x.k3⟩, 62), (b6y, vcA y, 44), (b8, poA Q, 62)] w') (by kernel_rfl) (by kernel_rfl) ⟨by kernel_rfl, K9.out.drew⟩ ?_ ?_
                  · intro i hi Lx ac w' hI hL haft
                    obtain ⟨rfl, hw⟩ := hI
                    match i, hi with
                    | 0, _ =>
                      have g10 : (HrC6 x y n0 n1 n2 h m pr r0 r1 Q k b1 b2 b3 b5x b6x b6y b8 Lx).tmps[10]?.getD undef = .pointer (some ⟨b6y, 0, none⟩) := by kernel_rfl
                      have e10 : (HrC6 x y n0 n1 n2 h m pr r0 r1 Q k b1 b2 b3 b5x b6x b6y b8 Lx).eval (.tmp 10) = .pointer (some ⟨b6y, 0, none⟩) := by kernel_rfl
                      exact i_val rfl (.agg (vcA y)) w' (by rfl) (kb_all hw 5 rfl 44 _ rfl e10 Try.underlying44 rfl (sizeV)) ⟨by kernel_rfl, hw⟩
                    | 1, _ =>
                      have g7 : (HrC6 x y n0 n1 n2 h m pr r0 r1 Q k b1 b2 b3 b5x b6x b6y b8 Lx).tmps[7]?.getD undef = .int .i64 n0 := by kernel_rfl
                      have e7 : (HrC6 x y n0 n1 n2 h m pr r0 r1 Q k b1 b2 b3 b5x b6x b6y b8 Lx).eval (.tmp 7) = .int .i64 n0 := by kernel_rfl
                      exact i_val rfl (.int .i64 n0) w' (by rfl) (by go_simp) ⟨by kernel_rfl, hw⟩
                    | 2, _ =>
                      have g8 : (HrC6 x y n0 n1 n2 h m pr r0 r1 Q k b1 b2 b3 b5x b6x b6y b8 Lx).tmps[8]?.getD undef = .pointer (some ⟨b5x, 0, none⟩) := by kernel_rfl
                      have e8 : (HrC6 x y n0 n1 n2 h m pr r0 r1 Q k b1 b2 b3 b5x b6x b6y b8 Lx).eval (.tmp 8) = .pointer (some ⟨b5x, 0, none⟩) := by kernel_rfl
                      exact i_val rfl (.pointer (some ⟨b5x, 2, none⟩)) w' (by rfl) (by go_simp) ⟨by kernel_rfl, hw⟩
                    | 3, _ =>
                      have h2 := haft 2 (by decide)
                      have e112 : (HrC6 x y n0 n1 n2 h m pr r0 r1 Q k b1 b2 b3 b5x b6x b6y b8 Lx).eval (.tmp 112) = .pointer (some ⟨b5x, 2, none⟩) := by show (bif Lx 2 then _ else _) = _; rw [h2]; rfl
                      have g112 : (HrC6 x y n0 n1 n2 h m pr r0 r1 Q k b1 b2 b3 b5x b6x b6y b8 Lx).tmps[112]?.getD undef = .pointer (some ⟨b5x, 2, none⟩) := by show (bif Lx 2 then _ else _) = _; rw [h2]; rfl
                      exact i_val rfl (.int .i64 h) w' (by rfl) (by have q : w'.cell? ⟨b5x, 2, none⟩ = some (.int .i64 h) := Kb.cell (i := 3) hw rfl (by rfl); go_simp) ⟨by kernel_rfl, hw⟩
                    | 4, _ =>
                      have h3 := haft 3 (by decide)
                      have e113 : (HrC6 x y n0 n1 n2 h m pr r0 r1 Q k b1 b2 b3 b5x b6x b6y b8 Lx).eval (.tmp 113) = .int .i64 h := by show (bif Lx 3 then _ else _) = _; rw [h3]; rfl
                      have g113 : (HrC6 x y n0 n1 n2 h m pr r0 r1 Q k b1 b2 b3 b5x b6x b6y b8 Lx).tmps[113]?.getD undef = .int .i64 h := by show (bif Lx 3 then _ else _) = _; rw [h3]; rfl
                      exact i_val rfl (.int .i64 (IntKind.i64.wrap (3 * h))) w' (by rfl) (by go_simp) ⟨by kernel_rfl, hw⟩
                    | 5, _ =>
                      have g9 : (HrC6 x y n0 n1 n2 h m pr r0 r1 Q k b1 b2 b3 b5x b6x b6y b8 Lx).tmps[9]?.getD undef = .pointer (some ⟨b6x, 0, none⟩) := by kernel_rfl
                      have e9 : (HrC6 x y n0 n1 n2 h m pr r0 r1 Q k b1 b2 b3 b5x b6x b6y b8 Lx).eval (.tmp 9) = .pointer (some ⟨b6x, 0, none⟩) := by kernel_rfl
                      exact i_val rfl (.pointer (some ⟨b6x, 12, none⟩)) w' (by rfl) (by go_simp) ⟨by kernel_rfl, hw⟩
                    | 6, _ =>
                      have h5 := haft 5 (by decide)
                      have e115 : (HrC6 x y n0 n1 n2 h m pr r0 r1 Q k b1 b2 b3 b5x b6x b6y b8 Lx).eval (.tmp 115) = .pointer (some ⟨b6x, 12, none⟩) := by show (bif Lx 5 then _ else _) = _; rw [h5]; rfl
                      have g115 : (HrC6 x y n0 n1 n2 h m pr r0 r1 Q k b1 b2 b3 b5x b6x b6y b8 Lx).tmps[115]?.getD undef = .pointer (some ⟨b6x, 12, none⟩) := by show (bif Lx 5 then _ else _) = _; rw [h5]; rfl
                      exact i_wp rfl (by rfl) (wp_store_cell 3 _ _ rfl ⟨b6x, 12, none⟩ (.int .i64 2) e115 rfl (kb_run_set hw (i := 4) rfl 3 12 (.int .i64 (bif Lx 6 then 2 else m)) (.int .i64 2) (by rfl) (fun W h1 h2 => by go_simp)) ⟨by kernel_rfl, cast_blk (Kb.set (i := 4) hw rfl 12 (.int .i64 2)) (by rfl)⟩)
                    | 7, _ =>
                      have g9 : (HrC6 x y n0 n1 n2 h m pr r0 r1 Q k b1 b2 b3 b5x b6x b6y b8 Lx).tmps[9]?.getD undef = .pointer (some ⟨b6x, 0, none⟩) := by kernel_rfl
                      have e9 : (HrC6 x y n0 n1 n2 h m pr r0 r1 Q k b1 b2 b3 b5x b6x b6y b8 Lx).eval (.tmp 9) = .pointer (some ⟨b6x, 0, none⟩) := by kernel_rfl
                      exact i_val rfl (.pointer (some ⟨b6x, 13, none⟩)) w' (by rfl) (by go_simp) ⟨by kernel_rfl, hw⟩
                    | 8, _ =>
                      have h0 := haft 0 (by decide)
                      have e110 : (HrC6 x y n0 n1 n2 h m pr r0 r1 Q k b1 b2 b3 b5x b6x b6y b8 Lx).eval (.tmp 110) = .agg (vcA y) := by show (bif Lx 0 then _ else _) = _; rw [h0]; rfl
                      have g110 : (HrC6 x y n0 n1 n2 h m pr r0 r1 Q k b1 b2 b3 b5x b6x b6y b8 Lx).tmps[110]?.getD undef = .agg (vcA y) := by show (bif Lx 0 then _ else _) = _; rw [h0]; rfl
                      have h7 := haft 7 (by decide)
                      have e116 : (HrC6 x y n0 n1 n2 h m pr r0 r1 Q k b1 b2 b3 b5x b6x b6y b8 Lx).eval (.tmp 116) = .pointer (some ⟨b6x, 13, none⟩) := by show (bif Lx 7 then _ else _) = _; rw [h7]; rfl
                      have g116 : (HrC6 x y n0 n1 n2 h m pr r0 r1 Q k b1 b2 b3 b5x b6x b6y b8 Lx).tmps[116]?.getD undef = .pointer (some ⟨b6x, 13, none⟩) := by show (bif Lx 7 then _ else _) = _; rw [h7]; rfl
                      exact i_wp rfl (by rfl) (wp_store_mid 44 _ _ rfl b6x 13 (vcA y) e116 e110 ((Kb.at (i := 4) hw rfl).thereN 13 4 (Nat.le_of_ble_eq_true (by kernel_rfl))) (sizeV) (by kernel_rfl) ⟨by kernel_rfl, cast_blk (Kb.mid (i := 4) hw rfl 13 (vcA y).toList) (by rfl)⟩)
                    | 9, _ =>
                      have g9 : (HrC6 x y n0 n1 n2 h m pr r0 r1 Q k b1 b2 b3 b5x b6x b6y b8 Lx).tmps[9]?.getD undef = .pointer (some ⟨b6x, 0, none⟩) := by kernel_rfl
                      have e9 : (HrC6 x y n0 n1 n2 h m pr r0 r1 Q k b1 b2 b3 b5x b6x b6y b8 Lx).eval (.tmp 9) = .pointer (some ⟨b6x, 0, none⟩) := by kernel_rfl
                      exact i_val rfl (.pointer (some ⟨b6x, 17, none⟩)) w' (by rfl) (by go_simp) ⟨by kernel_rfl, hw⟩
                    | 10, _ =>
                      have h1 := haft 1 (by decide)
                      have e111 : (HrC6 x y n0 n1 n2 h m pr r0 r1 Q k b1 b2 b3 b5x b6x b6y b8 Lx).eval (.tmp 111) = .int .i64 n0 := by show (bif Lx 1 then _ else _) = _; rw [h1]; rfl
                      have g111 : (HrC6 x y n0 n1 n2 h m pr r0 r1 Q k b1 b2 b3 b5x b6x b6y b8 Lx).tmps[111]?.getD undef = .int .i64 n0 := by show (bif Lx 1 then _ else _) = _; rw [h1]; rfl
                      have h9 := haft 9 (by decide)
                      have e117 : (HrC6 x y n0 n1 n2 h m pr r0 r1 Q k b1 b2 b3 b5x b6x b6y b8 Lx).eval (.tmp 117) = .pointer (some ⟨b6x, 17, none⟩) := by show (bif Lx 9 then _ else _) = _; rw [h9]; rfl
                      have g117 : (HrC6 x y n0 n1 n2 h m pr r0 r1 Q k b1 b2 b3 b5x b6x b6y b8 Lx).tmps[117]?.getD undef = .pointer (some ⟨b6x, 17, none⟩) := by show (bif Lx 9 then _ else _) = _; rw [h9]; rfl
                      exact i_wp rfl (by rfl) (wp_store_cell 3 _ _ rfl ⟨b6x, 17, none⟩ (.int .i64 n0) e117 e111 (kb_run_set hw (i := 4) rfl 3 17 (.int .i64 (bif Lx 10 then n0 else x.k0)) (.int .i64 n0) (by rfl) (fun W h1 h2 => by go_simp)) ⟨by kernel_rfl, cast_blk (Kb.set (i := 4) hw rfl 17 (.int .i64 n0)) (by rfl)⟩)
                    | 11, _ =>
                      have g9 : (HrC6 x y n0 n1 n2 h m pr r0 r1 Q k b1 b2 b3 b5x b6x b6y b8 Lx).tmps[9]?.getD undef = .pointer (some ⟨b6x, 0, none⟩) := by kernel_rfl
                      have e9 : (HrC6 x y n0 n1 n2 h m pr r0 r1 Q k b1 b2 b3 b5x b6x b6y b8 Lx).eval (.tmp 9) = .pointer (some ⟨b6x, 0, none⟩) := by kernel_rfl
                      exact i_val rfl (.pointer (some ⟨b6x, 18, none⟩)) w' (by rfl) (by go_simp) ⟨by kernel_rfl, hw⟩
                    | 12, _ =>
                      have h4 := haft 4 (by decide)
                      have e114 : (HrC6 x y n0 n1 n2 h m pr r0 r1 Q k b1 b2 b3 b5x b6x b6y b8 Lx).eval (.tmp 114) = .int .i64 (IntKind.i64.wrap (3 * h)) := by show (bif Lx 4 then _ else _) = _; rw [h4]; rfl
                      have g114 : (HrC6 x y n0 n1 n2 h m pr r0 r1 Q k b1 b2 b3 b5x b6x b6y b8 Lx).tmps[114]?.getD undef = .int .i64 (IntKind.i64.wrap (3 * h)) := by show (bif Lx 4 then _ else _) = _; rw [h4]; rfl
                      have h11 := haft 11 (by decide)
                      have e118 : (HrC6 x y n0 n1 n2 h m pr r0 r1 Q k b1 b2 b3 b5x b6x b6y b8 Lx).eval (.tmp 118) = .pointer (some ⟨b6x, 18, none⟩) := by show (bif Lx 11 then _ else _) = _; rw [h11]; rfl
                      have g118 : (HrC6 x y n0 n1 n2 h m pr r0 r1 Q k b1 b2 b3 b5x b6x b6y b8 Lx).tmps[118]?.getD undef = .pointer (some ⟨b6x, 18, none⟩) := by show (bif Lx 11 then _ else _) = _; rw [h11]; rfl
                      exact i_wp rfl (by rfl) (wp_store_cell 3 _ _ rfl ⟨b6x, 18, none⟩ (.int .i64 (IntKind.i64.wrap (3 * h))) e118 e114 (kb_run_set hw (i := 4) rfl 3 18 (.int .i64 (bif Lx 12 then (IntKind.i64.wrap (3 * h)) else x.k1)) (.int .i64 (IntKind.i64.wrap (3 * h))) (by rfl) (fun W h1 h2 => by go_simp)) ⟨by kernel_rfl, cast_blk (Kb.set (i := 4) hw rfl 18 (.int .i64 (IntKind.i64.wrap (3 * h)))) (by rfl)⟩)
                    | k + 13, h =>
                      exfalso
                      have h2 : k + 13 < 13 := h
                      omega
                  intro Lx ac w10 hI hall
                  obtain ⟨rfl, hw⟩ := hI
                  have hfr : HrC6 x y n0 n1 n2 h m pr r0 r1 Q k b1 b2 b3 b5x b6x b6y b8 Lx = { tmps := #[.agg (lpA x), .agg (tvA y), .agg (#[.int .i64 n0, .int .i64 n1, .int .i64 n2]), .pointer (some ⟨b1, 0, none⟩), .pointer (some ⟨b2, 0, none⟩), .pointer (some ⟨b3, 0, none⟩), .bool false, .int .i64 n0, .pointer (some ⟨b5x, 0, none⟩), .pointer (some ⟨b6x, 0, none⟩), .pointer (some ⟨b6y, 0, none⟩), .pointer (some ⟨b8, 0, none⟩), .int .i64 k, .bool true, .bool true, .int .i64 2, .bool true, .bool false, .pointer (some ⟨b3, 0, none⟩), .int .i64 n0, .pointer (some ⟨b3, 1, none⟩), .int .i64 n1, .pointer (some ⟨b3, 2, none⟩), .int .i64 n2, .int .i64 h, .agg (cfA ⟨0, n1, h, 0, 0, 0⟩), .agg (lpA x), .agg (poA ⟨0, 0, false, 0, pr, x.f4, true, true, x.f2, x.f3, r0, r1, m, (x.v.r : Nat), (x.v.c : Nat), (x.v.b : Nat), (x.v.p : Nat), x.k0, x.k1, x.k2, x.k3⟩), .agg (tvA y), .agg (vcA y), .tuple #[.agg (poA Q), .int .i64 k], .agg (poA ⟨0, 0, false, 0, pr, x.f4, true, true, x.f2, x.f3, r0, r1, m, (x.v.r : Nat), (x.v.c : Nat), (x.v.b : Nat), (x.v.p : Nat), x.k0, x.k1, x.k2, x.k3⟩), .agg (vcA y), .int .i64 n0, .agg (cfA ⟨0, n1, h, 0, 0, 0⟩), .tuple #[.agg (poA Q), .int .i64 k], .agg (poA Q), .int .i64 k, .pointer (some ⟨b6x, 7, none⟩), .bool true, .bool true, .pointer (some ⟨b6x, 6, none⟩), .bool true, .bool true, .bool false, .bool false, .int .i64 n0, .bool false, .bool false, .bool false, .int .i64 n0, .pointer (some ⟨b5x, 1, none⟩), .int .i64 n1, .bool false, .bool false, undef, undef, undef, undef, undef, undef, undef, .pointer (some ⟨b6x, 12, none⟩), .int .i64 m, .bool true, .bool true, .bool true, .pointer (some ⟨b6y, 2, none⟩), .int .u64 (y.b : Nat), .pointer (some ⟨b6x, 13, none⟩), .pointer (some ⟨b6x, 15, none⟩), .int .u64 (x.v.b : Nat), .bool true, .bool true, .bool true, .pointer (some ⟨b6y, 3, none⟩), .int .u16 (y.p : Nat), .pointer (some ⟨b6x, 13, none⟩), .pointer (some ⟨b6x, 16, none⟩), .int .u16 (x.v.p : Nat), .bool true, .bool true, .bool true, .bool false, .bool false, undef, undef, undef, undef, undef, .bool false, .bool false, undef, undef, undef, .bool false, undef, undef, undef, undef, undef, undef, undef, .bool true, .bool true, .pointer (some ⟨b6x, 13, none⟩), .agg (#[.int .u64 (x.v.r : Nat), .int .u32 (x.v.c : Nat), .int .u64 (x.v.b : Nat), .int .u16 (x.v.p : Nat)]), .agg (vcA y), .bool true, .bool true, .agg (vcA y), .int .i64 n0, .pointer (some ⟨b5x, 2, none⟩), .int .i64 h, .int .i64 (IntKind.i64.wrap (3 * h)), .pointer (some ⟨b6x, 12, none⟩), .pointer (some ⟨b6x, 13, none⟩), .pointer (some ⟨b6x, 17, none⟩), .pointer (some ⟨b6x, 18, none⟩), undef, undef, undef, undef, undef, undef, undef, undef], defers := [] } := by unfold HrC6; simp only [hall 0 (by decide), hall 1 (by decide), hall 2 (by decide), hall 3 (by decide), hall 4 (by decide), hall 5 (by decide), hall 7 (by decide), hall 9 (by decide), hall 11 (by decide), cond_true]
                  rw [hfr]
                  clear hfr
                  have hL6 := hall 6 (by decide)
                  have hL8 := hall 8 (by decide)
                  have hL10 := hall 10 (by decide)
                  have hL12 := hall 12 (by decide)
                  simp only [hL6, hL8, hL10, hL12, cond_true] at hw
                  have K10 := Lib.hid (show Kb w [(b1, lpA x, 55), (b2, tvA y, 52), (b3, #[.int .i64 n0, .int .i64 n1, .int .i64 n2], 56), (b5x, cfA ⟨0, n1, h, 0, 0, 0⟩, 58), (b6x, poA ⟨0, 0, false, 0, pr, x.f4, true, true, x.f2, x.f3, r0, r1, 2, (y.r : Nat), (y.c : Nat), (y.b : Nat), (y.p : Nat), n0, (IntKind.i64.wrap (3 * h)), x.k2, x.k3⟩, 62), (b6y, vcA y, 44), (b8, poA Q, 62)] w10 from hw)
                  clear hw hall hL6 hL8 hL10 hL12
                  go_upto_region 16 with fail
                  refine wp_region_lit ?_
                  refine wpList_val (.int .i64 k) (by rfl) (by go_simp) ?_
                  (try simp only [Act.put, List.getElem_toArray, List.getElem_cons_succ, List.getElem_cons_zero, List.setIfInBounds_toArray, List.set_cons_zero, List.set_cons_succ])
                  refine wpList_val (.int .i64 2) (by rfl) (by go_simp) ?_
                  (try simp only [Act.put, List.getElem_toArray, List.getElem_cons_succ, List.getElem_cons_zero, List.setIfInBounds_toArray, List.set_cons_zero, List.set_cons_succ])
                  refine wpList_val (.bool true) (by rfl) (by have q := HK2.out; go_simp) ?_
                  (try simp only [Act.put, List.getElem_toArray, List.getElem_cons_succ, List.getElem_cons_zero, List.setIfInBounds_toArray, List.set_cons_zero, List.set_cons_succ])
                  refine wpList_val (.bool true) (by rfl) (by go_simp) ?_
                  (try simp only [Act.put, List.getElem_toArray, List.getElem_cons_succ, List.getElem_cons_zero, List.setIfInBounds_toArray, List.set_cons_zero, List.set_cons_succ])
                  refine wpList_val (.agg (poA Q)) (by rfl) (kb_all K10.out 6 rfl 62 _ rfl rfl Try.underlying62 rfl (size50)) ?_
                  (try simp only [Act.put, List.getElem_toArray, List.getElem_cons_succ, List.getElem_cons_zero, List.setIfInBounds_toArray, List.set_cons_zero, List.set_cons_succ])
                  refine wpList_val (.agg (poA ⟨0, 0, false, 0, pr, x.f4, true, true, x.f2, x.f3, r0, r1, 2, (y.r : Nat), (y.c : Nat), (y.b : Nat), (y.p : Nat), n0, (IntKind.i64.wrap (3 * h)), x.k2, x.k3⟩)) (by rfl) (kb_all K10.out 4 rfl 62 _ rfl rfl Try.underlying62 rfl (size50)) ?_
                  (try simp only [Act.put, List.getElem_toArray, List.getElem_cons_succ, List.getElem_cons_zero, List.setIfInBounds_toArray, List.set_cons_zero, List.set_cons_succ])
                  refine wpList_val (.bool true) (by rfl) (by have q := eq_po2 HQ2.out; go_simp) ?_
                  (try simp only [Act.put, List.getElem_toArray, List.getElem_cons_succ, List.getElem_cons_zero, List.setIfInBounds_toArray, List.set_cons_zero, List.set_cons_succ])
                  refine wpList_val (.bool true) (by rfl) (run_pick_yes (.tmp 122) (.tmp 125) (.const (.bool false)) _ rfl rfl rfl) ?_
                  (try simp only [Act.put, List.getElem_toArray, List.getElem_cons_succ, List.getElem_cons_zero, List.setIfInBounds_toArray, List.set_cons_zero, List.set_cons_succ])
                  refine wpList_val (.bool true) (by rfl) (by go_simp) ?_
                  (try simp only [Act.put, List.getElem_toArray, List.getElem_cons_succ, List.getElem_cons_zero, List.setIfInBounds_toArray, List.set_cons_zero, List.set_cons_succ])
                  refine wpList_nil ?_
                  go_wp2_with fail
                  go_ret
                  exact ⟨ret_bool (rfl), K10.out.below⟩
end Go.Proofs.Ytojijeaofkndpaa
