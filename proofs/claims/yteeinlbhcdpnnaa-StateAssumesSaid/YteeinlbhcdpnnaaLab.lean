/- StateAssumes. -/
import Derived.Test.YteeinlbhcdpnnaaLa0
namespace Go.Proofs.Yteeinlbhcdpnnaa
open Go.RowKit
attribute [local irreducible] wpQuiet wpList
set_option linter.unusedSimpArgs false
set_option linter.unusedVariables false

set_option maxRecDepth 100000 in
set_option maxHeartbeats 8000000 in
theorem assumes_b (y : Lq) (hy : y.ok) (rl t0 t1 t2 : Nat) (h0 : t0 < 256) (h1 : t1 < 256) (h2 : t2 < 256) (dl : Int) (hgr : IntKind.i64.wrap (Int.tmod (rl : Nat) 5) = 4 ∧ ¬ ((madeQ y).p10 = 4 ∧ (madeQ y).p12 = 1)) (w : World) : Calls Try.prog 3 #[.agg (askA y rl t0 t1 t2 dl)] w fun e w' => e = .returned (.bool true) ∧ Below w.heap.size w w' := by
  obtain ⟨r, hr⟩ : ∃ r, r = IntKind.i64.wrap (Int.tmod (rl : Nat) 5) := ⟨_, rfl⟩
  obtain ⟨x, hx⟩ : ∃ x, x = madeQ y := ⟨_, rfl⟩
  obtain ⟨u, hu⟩ : ∃ u, u = (vecQ y.v0 y.v1 y.v2) := ⟨_, rfl⟩
  have hxu : madeQ y = poU x u := by rw [hx, hu, madeQ_U]
  obtain ⟨v, hv⟩ : ∃ v, v = vecQ t0 t1 t2 := ⟨_, rfl⟩
  obtain ⟨Q, hQ⟩ : ∃ Q, Q = assumeP x u r v dl := ⟨_, rfl⟩
  obtain ⟨an, hA⟩ : ∃ b, b = assumeN x u r v := ⟨_, rfl⟩
  obtain ⟨op, hO⟩ : ∃ b, b = openedB x Q := ⟨_, rfl⟩
  rw [← hr] at hgr
  try rw [← hx] at hgr
  have HG := Lib.hid hgr
  have HR := Lib.hid hr
  have HM := Lib.hid hxu
  have HV := Lib.hid hv
  have HQ := Lib.hid hQ
  have HAN := Lib.hid hA
  have HO := Lib.hid hO
  have HY := Lib.hid hy
  have HT := Lib.hid (And.intro h0 (And.intro h1 h2))
  clear hr hx hu hxu hv hQ hA hO hy h0 h1 h2 hgr
  have K := Lib.hid (Kb.nil w)
  go_enter Try.func3, Try.ntmps3
  go_upto_region 0 with fail
  refine wp_region_lit ?_
  refine kb_box K.out 28 (.tmp 0) (askA y rl t0 t1 t2 dl) rfl rfl (by rfl) ?_
  intro b1 w1 hb1 hk
  have K1 := Lib.hid (show Kb w [(b1, askA y rl t0 t1 t2 dl, 28)] w1 from hk)
  clear hk hb1
  (try simp only [Act.put, List.getElem_toArray, List.getElem_cons_succ, List.getElem_cons_zero, List.setIfInBounds_toArray, List.set_cons_zero, List.set_cons_succ])
  refine wpList_val (.bool false) (by rfl) (by go_simp) ?_
  (try simp only [Act.put, List.getElem_toArray, List.getElem_cons_succ, List.getElem_cons_zero, List.setIfInBounds_toArray, List.set_cons_zero, List.set_cons_succ])
  refine wpList_nil ?_
  go_upto_region 1 with fail
  refine wp_region_lit ?_
  refine kb_call K1.out 6 #[] (.bool true) (by rfl) (by go_simp) (speaks_any w1) ?_
  intro w2 hk
  have K2 := Lib.hid (show Kb w [(b1, askA y rl t0 t1 t2 dl, 28)] w2 from hk)
  clear hk
  (try simp only [Act.put, List.getElem_toArray, List.getElem_cons_succ, List.getElem_cons_zero, List.setIfInBounds_toArray, List.set_cons_zero, List.set_cons_succ])
  refine wpList_val (.bool false) (by rfl) (by go_simp) ?_
  (try simp only [Act.put, List.getElem_toArray, List.getElem_cons_succ, List.getElem_cons_zero, List.setIfInBounds_toArray, List.set_cons_zero, List.set_cons_succ])
  refine wpList_nil ?_
  go_upto_region 3 with fail
  refine wp_region_inv (I := fun L ac w' => ∃ (v4 v5 : Value), ac = AsXb y rl t0 t1 t2 r dl v b1 L v4 v5 ∧ W2 w2 35 38 4 6 (vcA v) (cfA ⟨0, 0, 0, dl, 0, 0⟩) (L 10) (L 11) (L 13) (L 14) v4 v5 w') (by kernel_rfl) (by kernel_rfl) ⟨undef, undef, by kernel_rfl, W2.start _⟩ ?_ ?_
  · intro i hi Lx ac w' hI hL haft
    obtain ⟨v4, v5, rfl, hw⟩ := hI
    match i, hi with
    | 0, _ =>
      have g1 : (AsXb y rl t0 t1 t2 r dl v b1 Lx v4 v5).tmps[1]?.getD undef = .pointer (some ⟨b1, 0, none⟩) := by kernel_rfl
      have e1 : (AsXb y rl t0 t1 t2 r dl v b1 Lx v4 v5).eval (.tmp 1) = .pointer (some ⟨b1, 0, none⟩) := by kernel_rfl
      exact i_val rfl (.pointer (some ⟨b1, 15, none⟩)) w' (by rfl) (by go_simp) ⟨v4, v5, by kernel_rfl, hw⟩
    | 1, _ =>
      have h0 := haft 0 (by decide)
      have e14 : (AsXb y rl t0 t1 t2 r dl v b1 Lx v4 v5).eval (.tmp 14) = .pointer (some ⟨b1, 15, none⟩) := by show (bif Lx 0 then _ else _) = _; rw [h0]; rfl
      have g14 : (AsXb y rl t0 t1 t2 r dl v b1 Lx v4 v5).tmps[14]?.getD undef = .pointer (some ⟨b1, 15, none⟩) := by show (bif Lx 0 then _ else _) = _; rw [h0]; rfl
      exact i_val rfl (.int .u8 (rl : Nat)) w' (by rfl) (by have q : w'.cell? ⟨b1, 15, none⟩ = some (.int .u8 (rl : Nat)) := Kb.cell (i := 0) (K2.out.next hw.from1) rfl (by rfl); go_simp) ⟨v4, v5, by kernel_rfl, hw⟩
    | 2, _ =>
      have h1 := haft 1 (by decide)
      have e15 : (AsXb y rl t0 t1 t2 r dl v b1 Lx v4 v5).eval (.tmp 15) = .int .u8 (rl : Nat) := by show (bif Lx 1 then _ else _) = _; rw [h1]; rfl
      have g15 : (AsXb y rl t0 t1 t2 r dl v b1 Lx v4 v5).tmps[15]?.getD undef = .int .u8 (rl : Nat) := by show (bif Lx 1 then _ else _) = _; rw [h1]; rfl
      exact i_val rfl (.int .u8 (Int.tmod (rl : Nat) 5)) w' (by rfl) (by go_simp) ⟨v4, v5, by kernel_rfl, hw⟩
    | 3, _ =>
      have h2 := haft 2 (by decide)
      have e16 : (AsXb y rl t0 t1 t2 r dl v b1 Lx v4 v5).eval (.tmp 16) = .int .u8 (Int.tmod (rl : Nat) 5) := by show (bif Lx 2 then _ else _) = _; rw [h2]; rfl
      have g16 : (AsXb y rl t0 t1 t2 r dl v b1 Lx v4 v5).tmps[16]?.getD undef = .int .u8 (Int.tmod (rl : Nat) 5) := by show (bif Lx 2 then _ else _) = _; rw [h2]; rfl
      exact i_val rfl (.int .i64 r) w' (by rfl) (by rw [show (Value.int IntKind.i64 r) = .int .i64 (IntKind.i64.wrap (Int.tmod (rl : Nat) 5)) from by rw [HR.out]]; go_simp) ⟨v4, v5, by kernel_rfl, hw⟩
    | 4, _ =>
      have g1 : (AsXb y rl t0 t1 t2 r dl v b1 Lx v4 v5).tmps[1]?.getD undef = .pointer (some ⟨b1, 0, none⟩) := by kernel_rfl
      have e1 : (AsXb y rl t0 t1 t2 r dl v b1 Lx v4 v5).eval (.tmp 1) = .pointer (some ⟨b1, 0, none⟩) := by kernel_rfl
      exact i_val rfl (.pointer (some ⟨b1, 16, none⟩)) w' (by rfl) (by go_simp) ⟨v4, v5, by kernel_rfl, hw⟩
    | 5, _ =>
      have h4 := haft 4 (by decide)
      have e18 : (AsXb y rl t0 t1 t2 r dl v b1 Lx v4 v5).eval (.tmp 18) = .pointer (some ⟨b1, 16, none⟩) := by show (bif Lx 4 then _ else _) = _; rw [h4]; rfl
      have g18 : (AsXb y rl t0 t1 t2 r dl v b1 Lx v4 v5).tmps[18]?.getD undef = .pointer (some ⟨b1, 16, none⟩) := by show (bif Lx 4 then _ else _) = _; rw [h4]; rfl
      exact i_val rfl (.agg (#[.int .u8 (t0 : Nat), .int .u8 (t1 : Nat), .int .u8 (t2 : Nat)])) w' (by rfl) (kb_part (K2.out.next hw.from1) 0 rfl 23 _ 16 (#[.int .u8 (t0 : Nat), .int .u8 (t1 : Nat), .int .u8 (t2 : Nat)]).toList rfl e18 (part_of (by kernel_rfl)) Try.underlying23 rfl (sizeA3)) ⟨v4, v5, by kernel_rfl, hw⟩
    | 6, _ =>
      have h5 := haft 5 (by decide)
      have e19 : (AsXb y rl t0 t1 t2 r dl v b1 Lx v4 v5).eval (.tmp 19) = .agg (#[.int .u8 (t0 : Nat), .int .u8 (t1 : Nat), .int .u8 (t2 : Nat)]) := by show (bif Lx 5 then _ else _) = _; rw [h5]; rfl
      have g19 : (AsXb y rl t0 t1 t2 r dl v b1 Lx v4 v5).tmps[19]?.getD undef = .agg (#[.int .u8 (t0 : Nat), .int .u8 (t1 : Nat), .int .u8 (t2 : Nat)]) := by show (bif Lx 5 then _ else _) = _; rw [h5]; rfl
      exact i_call rfl (.agg (vcA v)) 7 #[.agg (#[.int .u8 (t0 : Nat), .int .u8 (t1 : Nat), .int .u8 (t2 : Nat)])] (fun w2 => Below w'.heap.size w' w2) (by rfl) (by go_simp) (by rw [HV.out]; exact vec_any t0 t1 t2 HT.out.1 HT.out.2.1 HT.out.2.2 w') (fun w2 hb => ⟨v4, v5, by kernel_rfl, hw.next hb⟩)
    | 7, _ =>
      have g1 : (AsXb y rl t0 t1 t2 r dl v b1 Lx v4 v5).tmps[1]?.getD undef = .pointer (some ⟨b1, 0, none⟩) := by kernel_rfl
      have e1 : (AsXb y rl t0 t1 t2 r dl v b1 Lx v4 v5).eval (.tmp 1) = .pointer (some ⟨b1, 0, none⟩) := by kernel_rfl
      exact i_val rfl (.pointer (some ⟨b1, 19, none⟩)) w' (by rfl) (by go_simp) ⟨v4, v5, by kernel_rfl, hw⟩
    | 8, _ =>
      have h7 := haft 7 (by decide)
      have e21 : (AsXb y rl t0 t1 t2 r dl v b1 Lx v4 v5).eval (.tmp 21) = .pointer (some ⟨b1, 19, none⟩) := by show (bif Lx 7 then _ else _) = _; rw [h7]; rfl
      have g21 : (AsXb y rl t0 t1 t2 r dl v b1 Lx v4 v5).tmps[21]?.getD undef = .pointer (some ⟨b1, 19, none⟩) := by show (bif Lx 7 then _ else _) = _; rw [h7]; rfl
      exact i_val rfl (.int .i64 dl) w' (by rfl) (by have q : w'.cell? ⟨b1, 19, none⟩ = some (.int .i64 dl) := Kb.cell (i := 0) (K2.out.next hw.from1) rfl (by rfl); go_simp) ⟨v4, v5, by kernel_rfl, hw⟩
    | 9, _ =>
      have h8 := haft 8 (by decide)
      have e22 : (AsXb y rl t0 t1 t2 r dl v b1 Lx v4 v5).eval (.tmp 22) = .int .i64 dl := by show (bif Lx 8 then _ else _) = _; rw [h8]; rfl
      have g22 : (AsXb y rl t0 t1 t2 r dl v b1 Lx v4 v5).tmps[22]?.getD undef = .int .i64 dl := by show (bif Lx 8 then _ else _) = _; rw [h8]; rfl
      exact i_val rfl (.agg (cfA ⟨0, 0, 0, dl, 0, 0⟩)) w' (by rfl) (run_build_of 38 [(3, .tmp 22)] rfl _ (cfA ⟨0, 0, 0, dl, 0, 0⟩) (by simp only [List.map_cons, List.map_nil, e22]; rfl) (by kernel_rfl)) ⟨v4, v5, by kernel_rfl, hw⟩
    | 10, _ =>
      have hz := zV w'
      exact i_val rfl (.pointer (some ⟨w'.heap.size, 0, none⟩)) (w'.alloc (.cells (nil4) 35)) (by rfl) (by go_simp) ⟨(.pointer (some ⟨w'.heap.size, 0, none⟩)), v5, by kernel_rfl, hw.alloc7 rfl hL⟩
    | 11, _ =>
      have hz := zC w'
      exact i_val rfl (.pointer (some ⟨w'.heap.size, 0, none⟩)) (w'.alloc (.cells (nil6) 38)) (by rfl) (by go_simp) ⟨v4, (.pointer (some ⟨w'.heap.size, 0, none⟩)), by kernel_rfl, hw.alloc8 rfl hL⟩
    | 12, _ =>
      have h3 := haft 3 (by decide)
      have e17 : (AsXb y rl t0 t1 t2 r dl v b1 Lx v4 v5).eval (.tmp 17) = .int .i64 r := by show (bif Lx 3 then _ else _) = _; rw [h3]; rfl
      have g17 : (AsXb y rl t0 t1 t2 r dl v b1 Lx v4 v5).tmps[17]?.getD undef = .int .i64 r := by show (bif Lx 3 then _ else _) = _; rw [h3]; rfl
      exact i_val rfl (.int .i64 r) w' (by rfl) (by go_simp) ⟨v4, v5, by kernel_rfl, hw⟩
    | 13, _ =>
      have e4 : (AsXb y rl t0 t1 t2 r dl v b1 Lx v4 v5).eval (.tmp 4) = v4 := by kernel_rfl
      have g4 : (AsXb y rl t0 t1 t2 r dl v b1 Lx v4 v5).tmps[4]?.getD undef = v4 := by kernel_rfl
      have h6 := haft 6 (by decide)
      have e20 : (AsXb y rl t0 t1 t2 r dl v b1 Lx v4 v5).eval (.tmp 20) = .agg (vcA v) := by show (bif Lx 6 then _ else _) = _; rw [h6]; rfl
      have g20 : (AsXb y rl t0 t1 t2 r dl v b1 Lx v4 v5).tmps[20]?.getD undef = .agg (vcA v) := by show (bif Lx 6 then _ else _) = _; rw [h6]; rfl
      obtain ⟨c, cs, rfl, hB, hz, hk, -⟩ := hw.p7 (haft 10 (by decide))
      exact i_wp rfl (by rfl) (wp_store_row 35 _ _ rfl c (vcA v) e4 e20 35 cs hk (sizeV) (hz.trans rfl) (by kernel_rfl) ⟨(.pointer (some ⟨c, 0, none⟩)), v5, by kernel_rfl, hw.store7 (haft 10 (by decide)) rfl hk hB⟩)
    | 14, _ =>
      have e5 : (AsXb y rl t0 t1 t2 r dl v b1 Lx v4 v5).eval (.tmp 5) = v5 := by kernel_rfl
      have g5 : (AsXb y rl t0 t1 t2 r dl v b1 Lx v4 v5).tmps[5]?.getD undef = v5 := by kernel_rfl
      have h9 := haft 9 (by decide)
      have e23 : (AsXb y rl t0 t1 t2 r dl v b1 Lx v4 v5).eval (.tmp 23) = .agg (cfA ⟨0, 0, 0, dl, 0, 0⟩) := by show (bif Lx 9 then _ else _) = _; rw [h9]; rfl
      have g23 : (AsXb y rl t0 t1 t2 r dl v b1 Lx v4 v5).tmps[23]?.getD undef = .agg (cfA ⟨0, 0, 0, dl, 0, 0⟩) := by show (bif Lx 9 then _ else _) = _; rw [h9]; rfl
      obtain ⟨c, cs, rfl, hB, hz, hk, -⟩ := hw.p8 (haft 11 (by decide))
      exact i_wp rfl (by rfl) (wp_store_row 38 _ _ rfl c (cfA ⟨0, 0, 0, dl, 0, 0⟩) e5 e23 38 cs hk (size34) (hz.trans rfl) (by kernel_rfl) ⟨v4, (.pointer (some ⟨c, 0, none⟩)), by kernel_rfl, hw.store8 (haft 11 (by decide)) rfl hk hB⟩)
    | k + 15, h =>
      exfalso
      have h2 : k + 15 < 15 := h
      omega
  intro Lx ac w3 hI hall
  obtain ⟨v4, v5, rfl, hw⟩ := hI
  obtain ⟨b3x, cs0, hv0, hB0, -, hk0, hx0⟩ := hw.p7 (hall 10 (by decide))
  have hx0 := hx0 (hall 13 (by decide))
  subst hx0
  obtain ⟨b3y, cs1, hv1, hB1, -, hk1, hx1⟩ := hw.p8 (hall 11 (by decide))
  have hx1 := hx1 (hall 14 (by decide))
  subst hx1
  have hd := hw.d78 (hall 10 (by decide)) (hall 11 (by decide))
  subst hv0
  subst hv1
  have hfr : AsXb y rl t0 t1 t2 r dl v b1 Lx (.pointer (some ⟨b3x, 0, none⟩)) (.pointer (some ⟨b3y, 0, none⟩)) = { tmps := #[.agg (askA y rl t0 t1 t2 dl), .pointer (some ⟨b1, 0, none⟩), .bool false, .int .i64 r, .pointer (some ⟨b3x, 0, none⟩), .pointer (some ⟨b3y, 0, none⟩), undef, undef, undef, undef, undef, undef, .bool true, .bool false, .pointer (some ⟨b1, 15, none⟩), .int .u8 (rl : Nat), .int .u8 (Int.tmod (rl : Nat) 5), .int .i64 r, .pointer (some ⟨b1, 16, none⟩), .agg (#[.int .u8 (t0 : Nat), .int .u8 (t1 : Nat), .int .u8 (t2 : Nat)]), .agg (vcA v), .pointer (some ⟨b1, 19, none⟩), .int .i64 dl, .agg (cfA ⟨0, 0, 0, dl, 0, 0⟩), undef, undef, undef, undef, undef, undef, undef, undef, undef, undef, undef, undef, undef, undef, undef, undef, undef, undef, undef, undef, undef, undef, undef, undef, undef, undef, undef, undef, undef, undef, undef, undef, undef, undef, undef, undef, undef, undef, undef, undef, undef, undef, undef, undef, undef, undef, undef, undef, undef, undef, undef, undef, undef, undef, undef, undef, undef, undef, undef, undef, undef, undef, undef, undef, undef, undef, undef, undef, undef, undef, undef, undef, undef, undef, undef, undef, undef, undef, undef, undef, undef, undef, undef, undef, undef, undef, undef, undef, undef, undef, undef, undef], defers := [] } := by unfold AsXb; simp only [hall 0 (by decide), hall 1 (by decide), hall 2 (by decide), hall 3 (by decide), hall 4 (by decide), hall 5 (by decide), hall 6 (by decide), hall 7 (by decide), hall 8 (by decide), hall 9 (by decide), hall 10 (by decide), hall 11 (by decide), hall 12 (by decide), cond_true]
  rw [hfr]
  clear hfr
  have hne : b3y ≠ b3x := fun e => hd (by rw [e])
  have K1x := (kb_add (K2.out.next hw.from1) hk0 (fun x hx => by have := ((K2.out.all x hx).lt); omega) (Nat.le_trans K2.out.below.size hB0))
  have fr1 : ∀ xq ∈ [(b1, askA y rl t0 t1 t2 dl, 28), (b3x, vcA v, 35)], xq.1 ≠ b3y := fun xq hx => by
    rcases List.mem_append.1 (show xq ∈ [(b1, askA y rl t0 t1 t2 dl, 28)] ++ [(b3x, vcA v, 35)] from hx) with hx | hx
    · have := (K2.out.all xq hx).lt; omega
    · rw [List.mem_singleton.1 hx]; exact fun e => hne e.symm
  have K3 := Lib.hid (show Kb w [(b1, askA y rl t0 t1 t2 dl, 28), (b3x, vcA v, 35), (b3y, cfA ⟨0, 0, 0, dl, 0, 0⟩, 38)] w3 from kb_add K1x hk1 fr1 (Nat.le_trans K2.out.below.size hB1))
  clear K1x fr1 hne hd
  clear hw hall
  go_upto_region 4 with fail
  refine wp_region_lit ?_
  refine wpList_val (.pointer (some ⟨b1, 0, none⟩)) (by rfl) (by go_simp) ?_
  (try simp only [Act.put, List.getElem_toArray, List.getElem_cons_succ, List.getElem_cons_zero, List.setIfInBounds_toArray, List.set_cons_zero, List.set_cons_succ])
  refine wpList_val (.agg (#[.bool y.f0, .bool y.f1, .bool y.f2, .bool y.f3, .bool y.f4, .int .u8 (y.n0 : Nat), .int .u8 (y.n1 : Nat), .int .u8 (y.n2 : Nat), .int .u8 (y.v0 : Nat), .int .u8 (y.v1 : Nat), .int .u8 (y.v2 : Nat), .int .i32 y.k0, .int .i32 y.k1, .int .i32 y.k2, .int .i32 y.k3])) (by rfl) (kb_part K3.out 0 rfl 26 _ 0 (#[.bool y.f0, .bool y.f1, .bool y.f2, .bool y.f3, .bool y.f4, .int .u8 (y.n0 : Nat), .int .u8 (y.n1 : Nat), .int .u8 (y.n2 : Nat), .int .u8 (y.v0 : Nat), .int .u8 (y.v1 : Nat), .int .u8 (y.v2 : Nat), .int .i32 y.k0, .int .i32 y.k1, .int .i32 y.k2, .int .i32 y.k3]).toList rfl rfl (part_of (by kernel_rfl)) Try.underlying26 rfl (sizeLq)) ?_
  (try simp only [Act.put, List.getElem_toArray, List.getElem_cons_succ, List.getElem_cons_zero, List.setIfInBounds_toArray, List.set_cons_zero, List.set_cons_succ])
  refine kb_call K3.out 8 #[.agg (#[.bool y.f0, .bool y.f1, .bool y.f2, .bool y.f3, .bool y.f4, .int .u8 (y.n0 : Nat), .int .u8 (y.n1 : Nat), .int .u8 (y.n2 : Nat), .int .u8 (y.v0 : Nat), .int .u8 (y.v1 : Nat), .int .u8 (y.v2 : Nat), .int .i32 y.k0, .int .i32 y.k1, .int .i32 y.k2, .int .i32 y.k3])] (.agg (poA ⟨x.p0, x.p1, x.p2, x.p3, x.p4, x.p5, x.p6, x.p7, x.p8, x.p9, x.p10, x.p11, x.p12, (u.r : Nat), (u.c : Nat), (u.b : Nat), (u.p : Nat), x.p17, x.p18, x.p19, x.p20⟩)) (by rfl) (by go_simp) (made_is y HY.out ⟨x.p0, x.p1, x.p2, x.p3, x.p4, x.p5, x.p6, x.p7, x.p8, x.p9, x.p10, x.p11, x.p12, (u.r : Nat), (u.c : Nat), (u.b : Nat), (u.p : Nat), x.p17, x.p18, x.p19, x.p20⟩ HM.out w3) ?_
  intro w4 hk
  have K4 := Lib.hid (show Kb w [(b1, askA y rl t0 t1 t2 dl, 28), (b3x, vcA v, 35), (b3y, cfA ⟨0, 0, 0, dl, 0, 0⟩, 38)] w4 from hk)
  clear hk
  (try simp only [Act.put, List.getElem_toArray, List.getElem_cons_succ, List.getElem_cons_zero, List.setIfInBounds_toArray, List.set_cons_zero, List.set_cons_succ])
  refine kb_alloc K4.out 42 (nil21) rfl z50 (by rfl) ?_
  intro b5 w5 hb5 hk
  have K5 := Lib.hid (show Kb w [(b1, askA y rl t0 t1 t2 dl, 28), (b3x, vcA v, 35), (b3y, cfA ⟨0, 0, 0, dl, 0, 0⟩, 38), (b5, nil21, 42)] w5 from hk)
  clear hk hb5
  (try simp only [Act.put, List.getElem_toArray, List.getElem_cons_succ, List.getElem_cons_zero, List.setIfInBounds_toArray, List.set_cons_zero, List.set_cons_succ])
  refine kb_row K5.out 3 rfl 42 _ _ (poA ⟨x.p0, x.p1, x.p2, x.p3, x.p4, x.p5, x.p6, x.p7, x.p8, x.p9, x.p10, x.p11, x.p12, (u.r : Nat), (u.c : Nat), (u.b : Nat), (u.p : Nat), x.p17, x.p18, x.p19, x.p20⟩) rfl rfl rfl rfl (size50) (by rfl) (po_all _) ?_
  intro w6 hk
  have K6 := Lib.hid (show Kb w [(b1, askA y rl t0 t1 t2 dl, 28), (b3x, vcA v, 35), (b3y, cfA ⟨0, 0, 0, dl, 0, 0⟩, 38), (b5, poA ⟨x.p0, x.p1, x.p2, x.p3, x.p4, x.p5, x.p6, x.p7, x.p8, x.p9, x.p10, x.p11, x.p12, (u.r : Nat), (u.c : Nat), (u.b : Nat), (u.p : Nat), x.p17, x.p18, x.p19, x.p20⟩, 42)] w6 from hk)
  clear hk
  (try simp only [Act.put, List.getElem_toArray, List.getElem_cons_succ, List.getElem_cons_zero, List.setIfInBounds_toArray, List.set_cons_zero, List.set_cons_succ])
  refine wpList_nil ?_
  go_upto_region 5 with fail
  refine wp_region_lit ?_
  refine wpList_val (.agg (poA ⟨x.p0, x.p1, x.p2, x.p3, x.p4, x.p5, x.p6, x.p7, x.p8, x.p9, x.p10, x.p11, x.p12, (u.r : Nat), (u.c : Nat), (u.b : Nat), (u.p : Nat), x.p17, x.p18, x.p19, x.p20⟩)) (by rfl) (kb_all K6.out 3 rfl 42 _ rfl rfl Try.underlying42 rfl (size50)) ?_
  (try simp only [Act.put, List.getElem_toArray, List.getElem_cons_succ, List.getElem_cons_zero, List.setIfInBounds_toArray, List.set_cons_zero, List.set_cons_succ])
  refine wpList_val (.int .i64 r) (by rfl) (by go_simp) ?_
  (try simp only [Act.put, List.getElem_toArray, List.getElem_cons_succ, List.getElem_cons_zero, List.setIfInBounds_toArray, List.set_cons_zero, List.set_cons_succ])
  refine wpList_val (.agg (vcA v)) (by rfl) (kb_all K6.out 1 rfl 35 _ rfl rfl Try.underlying35 rfl (sizeV)) ?_
  (try simp only [Act.put, List.getElem_toArray, List.getElem_cons_succ, List.getElem_cons_zero, List.setIfInBounds_toArray, List.set_cons_zero, List.set_cons_succ])
  refine wpList_val (.agg (cfA ⟨0, 0, 0, dl, 0, 0⟩)) (by rfl) (kb_all K6.out 2 rfl 38 _ rfl rfl Try.underlying38 rfl (size34)) ?_
  (try simp only [Act.put, List.getElem_toArray, List.getElem_cons_succ, List.getElem_cons_zero, List.setIfInBounds_toArray, List.set_cons_zero, List.set_cons_succ])
  refine kb_call K6.out 9 #[.agg (poA ⟨x.p0, x.p1, x.p2, x.p3, x.p4, x.p5, x.p6, x.p7, x.p8, x.p9, x.p10, x.p11, x.p12, (u.r : Nat), (u.c : Nat), (u.b : Nat), (u.p : Nat), x.p17, x.p18, x.p19, x.p20⟩), .int .i64 r, .agg (vcA v), .agg (cfA ⟨0, 0, 0, dl, 0, 0⟩)] (.tuple #[.agg (poA Q), .bool an, .bool op]) (by rfl) (by go_simp) (assume_is ⟨x.p0, x.p1, x.p2, x.p3, x.p4, x.p5, x.p6, x.p7, x.p8, x.p9, x.p10, x.p11, x.p12, (u.r : Nat), (u.c : Nat), (u.b : Nat), (u.p : Nat), x.p17, x.p18, x.p19, x.p20⟩ x Q u r v ⟨0, 0, 0, dl, 0, 0⟩ an op rfl HQ.out.symm HAN.out.symm HO.out.symm w6) ?_
  intro w7 hk
  have K7 := Lib.hid (show Kb w [(b1, askA y rl t0 t1 t2 dl, 28), (b3x, vcA v, 35), (b3y, cfA ⟨0, 0, 0, dl, 0, 0⟩, 38), (b5, poA ⟨x.p0, x.p1, x.p2, x.p3, x.p4, x.p5, x.p6, x.p7, x.p8, x.p9, x.p10, x.p11, x.p12, (u.r : Nat), (u.c : Nat), (u.b : Nat), (u.p : Nat), x.p17, x.p18, x.p19, x.p20⟩, 42)] w7 from hk)
  clear hk
  (try simp only [Act.put, List.getElem_toArray, List.getElem_cons_succ, List.getElem_cons_zero, List.setIfInBounds_toArray, List.set_cons_zero, List.set_cons_succ])
  refine wpList_val (.tuple #[.agg (poA Q), .bool an, .bool op]) (by rfl) (by go_simp) ?_
  (try simp only [Act.put, List.getElem_toArray, List.getElem_cons_succ, List.getElem_cons_zero, List.setIfInBounds_toArray, List.set_cons_zero, List.set_cons_succ])
  refine wpList_val (.agg (poA Q)) (by rfl) (by go_simp) ?_
  (try simp only [Act.put, List.getElem_toArray, List.getElem_cons_succ, List.getElem_cons_zero, List.setIfInBounds_toArray, List.set_cons_zero, List.set_cons_succ])
  refine wpList_val (.bool an) (by rfl) (by go_simp) ?_
  (try simp only [Act.put, List.getElem_toArray, List.getElem_cons_succ, List.getElem_cons_zero, List.setIfInBounds_toArray, List.set_cons_zero, List.set_cons_succ])
  refine wpList_val (.bool op) (by rfl) (by go_simp) ?_
  (try simp only [Act.put, List.getElem_toArray, List.getElem_cons_succ, List.getElem_cons_zero, List.setIfInBounds_toArray, List.set_cons_zero, List.set_cons_succ])
  refine kb_alloc K7.out 42 (nil21) rfl z50 (by rfl) ?_
  intro b8 w8 hb8 hk
  have K8 := Lib.hid (show Kb w [(b1, askA y rl t0 t1 t2 dl, 28), (b3x, vcA v, 35), (b3y, cfA ⟨0, 0, 0, dl, 0, 0⟩, 38), (b5, poA ⟨x.p0, x.p1, x.p2, x.p3, x.p4, x.p5, x.p6, x.p7, x.p8, x.p9, x.p10, x.p11, x.p12, (u.r : Nat), (u.c : Nat), (u.b : Nat), (u.p : Nat), x.p17, x.p18, x.p19, x.p20⟩, 42), (b8, nil21, 42)] w8 from hk)
  clear hk hb8
  (try simp only [Act.put, List.getElem_toArray, List.getElem_cons_succ, List.getElem_cons_zero, List.setIfInBounds_toArray, List.set_cons_zero, List.set_cons_succ])
  refine kb_row K8.out 4 rfl 42 _ _ (poA Q) rfl rfl rfl rfl (size50) (by rfl) (po_all _) ?_
  intro w9 hk
  have K9 := Lib.hid (show Kb w [(b1, askA y rl t0 t1 t2 dl, 28), (b3x, vcA v, 35), (b3y, cfA ⟨0, 0, 0, dl, 0, 0⟩, 38), (b5, poA ⟨x.p0, x.p1, x.p2, x.p3, x.p4, x.p5, x.p6, x.p7, x.p8, x.p9, x.p10, x.p11, x.p12, (u.r : Nat), (u.c : Nat), (u.b : Nat), (u.p : Nat), x.p17, x.p18, x.p19, x.p20⟩, 42), (b8, poA Q, 42)] w9 from hk)
  clear hk
  (try simp only [Act.put, List.getElem_toArray, List.getElem_cons_succ, List.getElem_cons_zero, List.setIfInBounds_toArray, List.set_cons_zero, List.set_cons_succ])
  refine wpList_val (.bool an) (by rfl) (by go_simp) ?_
  (try simp only [Act.put, List.getElem_toArray, List.getElem_cons_succ, List.getElem_cons_zero, List.setIfInBounds_toArray, List.set_cons_zero, List.set_cons_succ])
  refine wpList_val (.bool op) (by rfl) (by go_simp) ?_
  (try simp only [Act.put, List.getElem_toArray, List.getElem_cons_succ, List.getElem_cons_zero, List.setIfInBounds_toArray, List.set_cons_zero, List.set_cons_succ])
  refine wpList_nil ?_
  go_upto_region 6 with fail
  refine wp_region_lit ?_
  refine wpList_val (.agg (poA ⟨x.p0, x.p1, x.p2, x.p3, x.p4, x.p5, x.p6, x.p7, x.p8, x.p9, x.p10, x.p11, x.p12, (u.r : Nat), (u.c : Nat), (u.b : Nat), (u.p : Nat), x.p17, x.p18, x.p19, x.p20⟩)) (by rfl) (kb_all K9.out 3 rfl 42 _ rfl rfl Try.underlying42 rfl (size50)) ?_
  (try simp only [Act.put, List.getElem_toArray, List.getElem_cons_succ, List.getElem_cons_zero, List.setIfInBounds_toArray, List.set_cons_zero, List.set_cons_succ])
  refine kb_alloc K9.out 42 (nil21) rfl z50 (by rfl) ?_
  intro b10 w10 hb10 hk
  have K10 := Lib.hid (show Kb w [(b1, askA y rl t0 t1 t2 dl, 28), (b3x, vcA v, 35), (b3y, cfA ⟨0, 0, 0, dl, 0, 0⟩, 38), (b5, poA ⟨x.p0, x.p1, x.p2, x.p3, x.p4, x.p5, x.p6, x.p7, x.p8, x.p9, x.p10, x.p11, x.p12, (u.r : Nat), (u.c : Nat), (u.b : Nat), (u.p : Nat), x.p17, x.p18, x.p19, x.p20⟩, 42), (b8, poA Q, 42), (b10, nil21, 42)] w10 from hk)
  clear hk hb10
  (try simp only [Act.put, List.getElem_toArray, List.getElem_cons_succ, List.getElem_cons_zero, List.setIfInBounds_toArray, List.set_cons_zero, List.set_cons_succ])
  refine kb_row K10.out 5 rfl 42 _ _ (poA ⟨x.p0, x.p1, x.p2, x.p3, x.p4, x.p5, x.p6, x.p7, x.p8, x.p9, x.p10, x.p11, x.p12, (u.r : Nat), (u.c : Nat), (u.b : Nat), (u.p : Nat), x.p17, x.p18, x.p19, x.p20⟩) rfl rfl rfl rfl (size50) (by rfl) (po_all _) ?_
  intro w11 hk
  have K11 := Lib.hid (show Kb w [(b1, askA y rl t0 t1 t2 dl, 28), (b3x, vcA v, 35), (b3y, cfA ⟨0, 0, 0, dl, 0, 0⟩, 38), (b5, poA ⟨x.p0, x.p1, x.p2, x.p3, x.p4, x.p5, x.p6, x.p7, x.p8, x.p9, x.p10, x.p11, x.p12, (u.r : Nat), (u.c : Nat), (u.b : Nat), (u.p : Nat), x.p17, x.p18, x.p19, x.p20⟩, 42), (b8, poA Q, 42), (b10, poA ⟨x.p0, x.p1, x.p2, x.p3, x.p4, x.p5, x.p6, x.p7, x.p8, x.p9, x.p10, x.p11, x.p12, (u.r : Nat), (u.c : Nat), (u.b : Nat), (u.p : Nat), x.p17, x.p18, x.p19, x.p20⟩, 42)] w11 from hk)
  clear hk
  (try simp only [Act.put, List.getElem_toArray, List.getElem_cons_succ, List.getElem_cons_zero, List.setIfInBounds_toArray, List.set_cons_zero, List.set_cons_succ])
  refine wpList_nil ?_
  go_upto_region 7 with fail
  refine wp_region_lit ?_
  refine wpList_val (.int .i64 r) (by rfl) (by go_simp) ?_
  (try simp only [Act.put, List.getElem_toArray, List.getElem_cons_succ, List.getElem_cons_zero, List.setIfInBounds_toArray, List.set_cons_zero, List.set_cons_succ])
  refine wpList_val (.pointer (some ⟨b5, 10, none⟩)) (by rfl) (by go_simp) ?_
  (try simp only [Act.put, List.getElem_toArray, List.getElem_cons_succ, List.getElem_cons_zero, List.setIfInBounds_toArray, List.set_cons_zero, List.set_cons_succ])
  refine kb_set K11.out 3 rfl 3 _ _ 10 (.int .i64 r) rfl (by rfl) rfl rfl (kb_run_set K11.out (i := 3) rfl 3 10 (.int .i64 x.p10) (.int .i64 r) (by rfl) (fun W h1 h2 => by go_simp)) (poA ⟨x.p0, x.p1, x.p2, x.p3, x.p4, x.p5, x.p6, x.p7, x.p8, x.p9, r, x.p11, x.p12, (u.r : Nat), (u.c : Nat), (u.b : Nat), (u.p : Nat), x.p17, x.p18, x.p19, x.p20⟩) (by kernel_rfl) ?_
  intro w12 hk
  have K12 := Lib.hid (show Kb w [(b1, askA y rl t0 t1 t2 dl, 28), (b3x, vcA v, 35), (b3y, cfA ⟨0, 0, 0, dl, 0, 0⟩, 38), (b5, poA ⟨x.p0, x.p1, x.p2, x.p3, x.p4, x.p5, x.p6, x.p7, x.p8, x.p9, r, x.p11, x.p12, (u.r : Nat), (u.c : Nat), (u.b : Nat), (u.p : Nat), x.p17, x.p18, x.p19, x.p20⟩, 42), (b8, poA Q, 42), (b10, poA ⟨x.p0, x.p1, x.p2, x.p3, x.p4, x.p5, x.p6, x.p7, x.p8, x.p9, x.p10, x.p11, x.p12, (u.r : Nat), (u.c : Nat), (u.b : Nat), (u.p : Nat), x.p17, x.p18, x.p19, x.p20⟩, 42)] w12 from hk)
  clear hk
  (try simp only [Act.put, List.getElem_toArray, List.getElem_cons_succ, List.getElem_cons_zero, List.setIfInBounds_toArray, List.set_cons_zero, List.set_cons_succ])
  refine wpList_nil ?_
  go_upto_region 8 with fail
  refine wp_region_lit ?_
  refine wpList_val (.bool false) (by rfl) (by go_simp) ?_
  (try simp only [Act.put, List.getElem_toArray, List.getElem_cons_succ, List.getElem_cons_zero, List.setIfInBounds_toArray, List.set_cons_zero, List.set_cons_succ])
  refine wpList_nil ?_
  go_upto_region 9 with fail
  obtain ⟨h4, hg⟩ := HG.out
  subst h4
  have HG2 := Lib.hid hg
  clear hg
  by_cases hp : x.p10 = 4
  case neg =>
    have HP10 := Lib.hid hp
    clear hp
    rcases bool_two x.p5 with h5 | h5
    case inl =>
      have H5 := Lib.hid h5
      clear h5
      have hB : desB x u v = true := by simp [desB, HP10.out]
      have HB := Lib.hid hB
      clear hB
      have hed : edgeB x = false := by simp [edgeB, H5.out]
      have HED := Lib.hid hed
      clear hed
      have ha : an = true := by rw [HAN.out]; simp [assumeN, HB.out]
      subst ha
      have hq : Q = ⟨x.p0, x.p1, x.p2, x.p3, x.p4, x.p5, x.p6, x.p7, x.p8, false, 4, 0, 1, (v.r : Nat), (v.c : Nat), (v.b : Nat), (v.p : Nat), 0, 0, dl, x.p20⟩ := by rw [HQ.out]; unfold assumeP; rw [if_neg (by decide), if_neg (by decide), if_pos rfl]; simp [desP, desV, HB.out, HED.out, HP10.out]
      have HQQ := Lib.hid hq
      clear hq
      refine wp_region_lit ?_
      refine wpList_val (.int .i64 4) (by rfl) (by go_simp) ?_
      (try simp only [Act.put, List.getElem_toArray, List.getElem_cons_succ, List.getElem_cons_zero, List.setIfInBounds_toArray, List.set_cons_zero, List.set_cons_succ])
      refine wpList_val (.bool false) (by rfl) (by go_simp) ?_
      (try simp only [Act.put, List.getElem_toArray, List.getElem_cons_succ, List.getElem_cons_zero, List.setIfInBounds_toArray, List.set_cons_zero, List.set_cons_succ])
      refine wpList_val (.bool false) (by rfl) (by go_simp) ?_
      (try simp only [Act.put, List.getElem_toArray, List.getElem_cons_succ, List.getElem_cons_zero, List.setIfInBounds_toArray, List.set_cons_zero, List.set_cons_succ])
      refine wpList_val (.int .i64 4) (by rfl) (by go_simp) ?_
      (try simp only [Act.put, List.getElem_toArray, List.getElem_cons_succ, List.getElem_cons_zero, List.setIfInBounds_toArray, List.set_cons_zero, List.set_cons_succ])
      refine wpList_val (.bool false) (by rfl) (by go_simp) ?_
      (try simp only [Act.put, List.getElem_toArray, List.getElem_cons_succ, List.getElem_cons_zero, List.setIfInBounds_toArray, List.set_cons_zero, List.set_cons_succ])
      refine wpList_val (.bool false) (by rfl) (run_pick_no (.tmp 41) (.const (.bool true)) (.tmp 43) _ rfl rfl rfl) ?_
      (try simp only [Act.put, List.getElem_toArray, List.getElem_cons_succ, List.getElem_cons_zero, List.setIfInBounds_toArray, List.set_cons_zero, List.set_cons_succ])
      refine wpList_nil ?_
      go_upto_region 11 with fail
      refine wp_region_lit ?_
      refine wpList_val (.int .i64 4) (by rfl) (by go_simp) ?_
      (try simp only [Act.put, List.getElem_toArray, List.getElem_cons_succ, List.getElem_cons_zero, List.setIfInBounds_toArray, List.set_cons_zero, List.set_cons_succ])
      refine wpList_val (.bool false) (by rfl) (by go_simp) ?_
      (try simp only [Act.put, List.getElem_toArray, List.getElem_cons_succ, List.getElem_cons_zero, List.setIfInBounds_toArray, List.set_cons_zero, List.set_cons_succ])
      refine wpList_val (.bool false) (by rfl) (by go_simp) ?_
      (try simp only [Act.put, List.getElem_toArray, List.getElem_cons_succ, List.getElem_cons_zero, List.setIfInBounds_toArray, List.set_cons_zero, List.set_cons_succ])
      refine wpList_skip (by kernel_rfl) ?_
      (try simp only [Act.put, List.getElem_toArray, List.getElem_cons_succ, List.getElem_cons_zero, List.setIfInBounds_toArray, List.set_cons_zero, List.set_cons_succ])
      refine wpList_skip (by kernel_rfl) ?_
      (try simp only [Act.put, List.getElem_toArray, List.getElem_cons_succ, List.getElem_cons_zero, List.setIfInBounds_toArray, List.set_cons_zero, List.set_cons_succ])
      refine wpList_skip (by kernel_rfl) ?_
      (try simp only [Act.put, List.getElem_toArray, List.getElem_cons_succ, List.getElem_cons_zero, List.setIfInBounds_toArray, List.set_cons_zero, List.set_cons_succ])
      refine wpList_val (.bool false) (by rfl) (run_pick_no (.tmp 50) (.tmp 53) (.const (.bool false)) _ rfl rfl rfl) ?_
      (try simp only [Act.put, List.getElem_toArray, List.getElem_cons_succ, List.getElem_cons_zero, List.setIfInBounds_toArray, List.set_cons_zero, List.set_cons_succ])
      refine wpList_nil ?_
      go_upto_region 13 with fail
      refine wp_region_lit ?_
      refine wpList_val (.int .i64 4) (by rfl) (by go_simp) ?_
      (try simp only [Act.put, List.getElem_toArray, List.getElem_cons_succ, List.getElem_cons_zero, List.setIfInBounds_toArray, List.set_cons_zero, List.set_cons_succ])
      refine wpList_val (.bool true) (by rfl) (by go_simp) ?_
      (try simp only [Act.put, List.getElem_toArray, List.getElem_cons_succ, List.getElem_cons_zero, List.setIfInBounds_toArray, List.set_cons_zero, List.set_cons_succ])
      refine wpList_nil ?_
      go_upto_region 14 with fail
      refine wp_region_lit ?_
      refine wpList_val (.pointer (some ⟨b10, 10, none⟩)) (by rfl) (by go_simp) ?_
      (try simp only [Act.put, List.getElem_toArray, List.getElem_cons_succ, List.getElem_cons_zero, List.setIfInBounds_toArray, List.set_cons_zero, List.set_cons_succ])
      refine wpList_val (.int .i64 x.p10) (by rfl) (by have q : w12.cell? ⟨b10, 10, none⟩ = some (.int .i64 x.p10) := K12.out.cell (i := 5) rfl (by rfl); go_simp) ?_
      (try simp only [Act.put, List.getElem_toArray, List.getElem_cons_succ, List.getElem_cons_zero, List.setIfInBounds_toArray, List.set_cons_zero, List.set_cons_succ])
      refine wpList_val (.bool true) (by rfl) (by have q := HP10.out; go_simp) ?_
      (try simp only [Act.put, List.getElem_toArray, List.getElem_cons_succ, List.getElem_cons_zero, List.setIfInBounds_toArray, List.set_cons_zero, List.set_cons_succ])
      refine wpList_val (.bool true) (by rfl) (by go_simp) ?_
      (try simp only [Act.put, List.getElem_toArray, List.getElem_cons_succ, List.getElem_cons_zero, List.setIfInBounds_toArray, List.set_cons_zero, List.set_cons_succ])
      refine wpList_skip (by kernel_rfl) ?_
      (try simp only [Act.put, List.getElem_toArray, List.getElem_cons_succ, List.getElem_cons_zero, List.setIfInBounds_toArray, List.set_cons_zero, List.set_cons_succ])
      refine wpList_skip (by kernel_rfl) ?_
      (try simp only [Act.put, List.getElem_toArray, List.getElem_cons_succ, List.getElem_cons_zero, List.setIfInBounds_toArray, List.set_cons_zero, List.set_cons_succ])
      refine wpList_skip (by kernel_rfl) ?_
      (try simp only [Act.put, List.getElem_toArray, List.getElem_cons_succ, List.getElem_cons_zero, List.setIfInBounds_toArray, List.set_cons_zero, List.set_cons_succ])
      refine wpList_val (.bool true) (by rfl) (run_pick_yes (.tmp 63) (.const (.bool true)) (.tmp 66) _ rfl rfl rfl) ?_
      (try simp only [Act.put, List.getElem_toArray, List.getElem_cons_succ, List.getElem_cons_zero, List.setIfInBounds_toArray, List.set_cons_zero, List.set_cons_succ])
      refine wpList_val (.bool true) (by rfl) (by go_simp) ?_
      (try simp only [Act.put, List.getElem_toArray, List.getElem_cons_succ, List.getElem_cons_zero, List.setIfInBounds_toArray, List.set_cons_zero, List.set_cons_succ])
      refine wpList_skip (by kernel_rfl) ?_
      (try simp only [Act.put, List.getElem_toArray, List.getElem_cons_succ, List.getElem_cons_zero, List.setIfInBounds_toArray, List.set_cons_zero, List.set_cons_succ])
      refine wpList_skip (by kernel_rfl) ?_
      (try simp only [Act.put, List.getElem_toArray, List.getElem_cons_succ, List.getElem_cons_zero, List.setIfInBounds_toArray, List.set_cons_zero, List.set_cons_succ])
      refine wpList_skip (by kernel_rfl) ?_
      (try simp only [Act.put, List.getElem_toArray, List.getElem_cons_succ, List.getElem_cons_zero, List.setIfInBounds_toArray, List.set_cons_zero, List.set_cons_succ])
      refine wpList_skip (by kernel_rfl) ?_
      (try simp only [Act.put, List.getElem_toArray, List.getElem_cons_succ, List.getElem_cons_zero, List.setIfInBounds_toArray, List.set_cons_zero, List.set_cons_succ])
      refine wpList_val (.bool true) (by rfl) (run_pick_yes (.tmp 68) (.const (.bool true)) (.tmp 72) _ rfl rfl rfl) ?_
      (try simp only [Act.put, List.getElem_toArray, List.getElem_cons_succ, List.getElem_cons_zero, List.setIfInBounds_toArray, List.set_cons_zero, List.set_cons_succ])
      refine wpList_val (.bool true) (by rfl) (by go_simp) ?_
      (try simp only [Act.put, List.getElem_toArray, List.getElem_cons_succ, List.getElem_cons_zero, List.setIfInBounds_toArray, List.set_cons_zero, List.set_cons_succ])
      refine wpList_nil ?_
      go_upto_region 15 with fail
      refine wp_region_lit ?_
      refine wpList_val (.bool true) (by rfl) (by go_simp) ?_
      (try simp only [Act.put, List.getElem_toArray, List.getElem_cons_succ, List.getElem_cons_zero, List.setIfInBounds_toArray, List.set_cons_zero, List.set_cons_succ])
      refine wpList_nil ?_
      go_upto_region 16 with fail
      refine wp_region_inv (I := fun L ac w' => ac = AsYb1 y rl t0 t1 t2 dl u v x Q op b1 b3x b3y b5 b8 b10 L ∧ Kb w [(b1, askA y rl t0 t1 t2 dl, 28), (b3x, vcA v, 35), (b3y, cfA ⟨0, 0, 0, dl, 0, 0⟩, 38), (b5, poA ⟨x.p0, x.p1, x.p2, x.p3, x.p4, x.p5, x.p6, x.p7, x.p8, (bif L 10 then false else x.p9), 4, x.p11, (bif L 2 then 1 else x.p12), (bif L 4 then (v.r : Nat) else (u.r : Nat)), (bif L 4 then (v.c : Nat) else (u.c : Nat)), (bif L 4 then (v.b : Nat) else (u.b : Nat)), (bif L 4 then (v.p : Nat) else (u.p : Nat)), (bif L 6 then 0 else x.p17), (bif L 8 then 0 else x.p18), x.p19, x.p20⟩, 42), (b8, poA Q, 42), (b10, poA ⟨x.p0, x.p1, x.p2, x.p3, x.p4, x.p5, x.p6, x.p7, x.p8, x.p9, x.p10, x.p11, x.p12, (u.r : Nat), (u.c : Nat), (u.b : Nat), (u.p : Nat), x.p17, x.p18, x.p19, x.p20⟩, 42)] w') (by kernel_rfl) (by kernel_rfl) ⟨by kernel_rfl, K12.out.drew⟩ ?_ ?_
      · intro i hi Lx ac w' hI hL haft
        obtain ⟨rfl, hw⟩ := hI
        match i, hi with
        | 0, _ =>
          have g4 : (AsYb1 y rl t0 t1 t2 dl u v x Q op b1 b3x b3y b5 b8 b10 Lx).tmps[4]?.getD undef = .pointer (some ⟨b3x, 0, none⟩) := by kernel_rfl
          have e4 : (AsYb1 y rl t0 t1 t2 dl u v x Q op b1 b3x b3y b5 b8 b10 Lx).eval (.tmp 4) = .pointer (some ⟨b3x, 0, none⟩) := by kernel_rfl
          exact i_val rfl (.agg (vcA v)) w' (by rfl) (kb_all hw 1 rfl 35 _ rfl e4 Try.underlying35 rfl (sizeV)) ⟨by kernel_rfl, hw⟩
        | 1, _ =>
          have g6 : (AsYb1 y rl t0 t1 t2 dl u v x Q op b1 b3x b3y b5 b8 b10 Lx).tmps[6]?.getD undef = .pointer (some ⟨b5, 0, none⟩) := by kernel_rfl
          have e6 : (AsYb1 y rl t0 t1 t2 dl u v x Q op b1 b3x b3y b5 b8 b10 Lx).eval (.tmp 6) = .pointer (some ⟨b5, 0, none⟩) := by kernel_rfl
          exact i_val rfl (.pointer (some ⟨b5, 12, none⟩)) w' (by rfl) (by go_simp) ⟨by kernel_rfl, hw⟩
        | 2, _ =>
          have h1 := haft 1 (by decide)
          have e76 : (AsYb1 y rl t0 t1 t2 dl u v x Q op b1 b3x b3y b5 b8 b10 Lx).eval (.tmp 76) = .pointer (some ⟨b5, 12, none⟩) := by show (bif Lx 1 then _ else _) = _; rw [h1]; rfl
          have g76 : (AsYb1 y rl t0 t1 t2 dl u v x Q op b1 b3x b3y b5 b8 b10 Lx).tmps[76]?.getD undef = .pointer (some ⟨b5, 12, none⟩) := by show (bif Lx 1 then _ else _) = _; rw [h1]; rfl
          exact i_wp rfl (by rfl) (wp_store_cell 3 _ _ rfl ⟨b5, 12, none⟩ (.int .i64 1) e76 rfl (kb_run_set hw (i := 3) rfl 3 12 (.int .i64 (bif Lx 2 then 1 else x.p12)) (.int .i64 1) (by rfl) (fun W h1 h2 => by go_simp)) ⟨by kernel_rfl, cast_blk (Kb.set (i := 3) hw rfl 12 (.int .i64 1)) (by rfl)⟩)
        | 3, _ =>
          have g6 : (AsYb1 y rl t0 t1 t2 dl u v x Q op b1 b3x b3y b5 b8 b10 Lx).tmps[6]?.getD undef = .pointer (some ⟨b5, 0, none⟩) := by kernel_rfl
          have e6 : (AsYb1 y rl t0 t1 t2 dl u v x Q op b1 b3x b3y b5 b8 b10 Lx).eval (.tmp 6) = .pointer (some ⟨b5, 0, none⟩) := by kernel_rfl
          exact i_val rfl (.pointer (some ⟨b5, 13, none⟩)) w' (by rfl) (by go_simp) ⟨by kernel_rfl, hw⟩
        | 4, _ =>
          have h0 := haft 0 (by decide)
          have e75 : (AsYb1 y rl t0 t1 t2 dl u v x Q op b1 b3x b3y b5 b8 b10 Lx).eval (.tmp 75) = .agg (vcA v) := by show (bif Lx 0 then _ else _) = _; rw [h0]; rfl
          have g75 : (AsYb1 y rl t0 t1 t2 dl u v x Q op b1 b3x b3y b5 b8 b10 Lx).tmps[75]?.getD undef = .agg (vcA v) := by show (bif Lx 0 then _ else _) = _; rw [h0]; rfl
          have h3 := haft 3 (by decide)
          have e77 : (AsYb1 y rl t0 t1 t2 dl u v x Q op b1 b3x b3y b5 b8 b10 Lx).eval (.tmp 77) = .pointer (some ⟨b5, 13, none⟩) := by show (bif Lx 3 then _ else _) = _; rw [h3]; rfl
          have g77 : (AsYb1 y rl t0 t1 t2 dl u v x Q op b1 b3x b3y b5 b8 b10 Lx).tmps[77]?.getD undef = .pointer (some ⟨b5, 13, none⟩) := by show (bif Lx 3 then _ else _) = _; rw [h3]; rfl
          exact i_wp rfl (by rfl) (wp_store_mid 35 _ _ rfl b5 13 (vcA v) e77 e75 ((Kb.at (i := 3) hw rfl).thereN 13 4 (Nat.le_of_ble_eq_true (by kernel_rfl))) (sizeV) (by kernel_rfl) ⟨by kernel_rfl, cast_blk (Kb.mid (i := 3) hw rfl 13 (vcA v).toList) (by rfl)⟩)
        | 5, _ =>
          have g6 : (AsYb1 y rl t0 t1 t2 dl u v x Q op b1 b3x b3y b5 b8 b10 Lx).tmps[6]?.getD undef = .pointer (some ⟨b5, 0, none⟩) := by kernel_rfl
          have e6 : (AsYb1 y rl t0 t1 t2 dl u v x Q op b1 b3x b3y b5 b8 b10 Lx).eval (.tmp 6) = .pointer (some ⟨b5, 0, none⟩) := by kernel_rfl
          exact i_val rfl (.pointer (some ⟨b5, 17, none⟩)) w' (by rfl) (by go_simp) ⟨by kernel_rfl, hw⟩
        | 6, _ =>
          have h5 := haft 5 (by decide)
          have e78 : (AsYb1 y rl t0 t1 t2 dl u v x Q op b1 b3x b3y b5 b8 b10 Lx).eval (.tmp 78) = .pointer (some ⟨b5, 17, none⟩) := by show (bif Lx 5 then _ else _) = _; rw [h5]; rfl
          have g78 : (AsYb1 y rl t0 t1 t2 dl u v x Q op b1 b3x b3y b5 b8 b10 Lx).tmps[78]?.getD undef = .pointer (some ⟨b5, 17, none⟩) := by show (bif Lx 5 then _ else _) = _; rw [h5]; rfl
          exact i_wp rfl (by rfl) (wp_store_cell 3 _ _ rfl ⟨b5, 17, none⟩ (.int .i64 0) e78 rfl (kb_run_set hw (i := 3) rfl 3 17 (.int .i64 (bif Lx 6 then 0 else x.p17)) (.int .i64 0) (by rfl) (fun W h1 h2 => by go_simp)) ⟨by kernel_rfl, cast_blk (Kb.set (i := 3) hw rfl 17 (.int .i64 0)) (by rfl)⟩)
        | 7, _ =>
          have g6 : (AsYb1 y rl t0 t1 t2 dl u v x Q op b1 b3x b3y b5 b8 b10 Lx).tmps[6]?.getD undef = .pointer (some ⟨b5, 0, none⟩) := by kernel_rfl
          have e6 : (AsYb1 y rl t0 t1 t2 dl u v x Q op b1 b3x b3y b5 b8 b10 Lx).eval (.tmp 6) = .pointer (some ⟨b5, 0, none⟩) := by kernel_rfl
          exact i_val rfl (.pointer (some ⟨b5, 18, none⟩)) w' (by rfl) (by go_simp) ⟨by kernel_rfl, hw⟩
        | 8, _ =>
          have h7 := haft 7 (by decide)
          have e79 : (AsYb1 y rl t0 t1 t2 dl u v x Q op b1 b3x b3y b5 b8 b10 Lx).eval (.tmp 79) = .pointer (some ⟨b5, 18, none⟩) := by show (bif Lx 7 then _ else _) = _; rw [h7]; rfl
          have g79 : (AsYb1 y rl t0 t1 t2 dl u v x Q op b1 b3x b3y b5 b8 b10 Lx).tmps[79]?.getD undef = .pointer (some ⟨b5, 18, none⟩) := by show (bif Lx 7 then _ else _) = _; rw [h7]; rfl
          exact i_wp rfl (by rfl) (wp_store_cell 3 _ _ rfl ⟨b5, 18, none⟩ (.int .i64 0) e79 rfl (kb_run_set hw (i := 3) rfl 3 18 (.int .i64 (bif Lx 8 then 0 else x.p18)) (.int .i64 0) (by rfl) (fun W h1 h2 => by go_simp)) ⟨by kernel_rfl, cast_blk (Kb.set (i := 3) hw rfl 18 (.int .i64 0)) (by rfl)⟩)
        | 9, _ =>
          have g6 : (AsYb1 y rl t0 t1 t2 dl u v x Q op b1 b3x b3y b5 b8 b10 Lx).tmps[6]?.getD undef = .pointer (some ⟨b5, 0, none⟩) := by kernel_rfl
          have e6 : (AsYb1 y rl t0 t1 t2 dl u v x Q op b1 b3x b3y b5 b8 b10 Lx).eval (.tmp 6) = .pointer (some ⟨b5, 0, none⟩) := by kernel_rfl
          exact i_val rfl (.pointer (some ⟨b5, 9, none⟩)) w' (by rfl) (by go_simp) ⟨by kernel_rfl, hw⟩
        | 10, _ =>
          have h9 := haft 9 (by decide)
          have e80 : (AsYb1 y rl t0 t1 t2 dl u v x Q op b1 b3x b3y b5 b8 b10 Lx).eval (.tmp 80) = .pointer (some ⟨b5, 9, none⟩) := by show (bif Lx 9 then _ else _) = _; rw [h9]; rfl
          have g80 : (AsYb1 y rl t0 t1 t2 dl u v x Q op b1 b3x b3y b5 b8 b10 Lx).tmps[80]?.getD undef = .pointer (some ⟨b5, 9, none⟩) := by show (bif Lx 9 then _ else _) = _; rw [h9]; rfl
          exact i_wp rfl (by rfl) (wp_store_cell 4 _ _ rfl ⟨b5, 9, none⟩ (.bool false) e80 rfl (kb_run_set hw (i := 3) rfl 4 9 (.bool (bif Lx 10 then false else x.p9)) (.bool false) (by rfl) (fun W h1 h2 => by go_simp)) ⟨by kernel_rfl, cast_blk (Kb.set (i := 3) hw rfl 9 (.bool false)) (by rfl)⟩)
        | k + 11, h =>
          exfalso
          have h2 : k + 11 < 11 := h
          omega
      intro Lx ac w13 hI hall
      obtain ⟨rfl, hw⟩ := hI
      have hfr : AsYb1 y rl t0 t1 t2 dl u v x Q op b1 b3x b3y b5 b8 b10 Lx = { tmps := #[.agg (askA y rl t0 t1 t2 dl), .pointer (some ⟨b1, 0, none⟩), .bool false, .int .i64 4, .pointer (some ⟨b3x, 0, none⟩), .pointer (some ⟨b3y, 0, none⟩), .pointer (some ⟨b5, 0, none⟩), .pointer (some ⟨b8, 0, none⟩), .bool true, .bool op, .pointer (some ⟨b10, 0, none⟩), .bool true, .bool true, .bool false, .pointer (some ⟨b1, 15, none⟩), .int .u8 (rl : Nat), .int .u8 (Int.tmod (rl : Nat) 5), .int .i64 4, .pointer (some ⟨b1, 16, none⟩), .agg (#[.int .u8 (t0 : Nat), .int .u8 (t1 : Nat), .int .u8 (t2 : Nat)]), .agg (vcA v), .pointer (some ⟨b1, 19, none⟩), .int .i64 dl, .agg (cfA ⟨0, 0, 0, dl, 0, 0⟩), .pointer (some ⟨b1, 0, none⟩), .agg (#[.bool y.f0, .bool y.f1, .bool y.f2, .bool y.f3, .bool y.f4, .int .u8 (y.n0 : Nat), .int .u8 (y.n1 : Nat), .int .u8 (y.n2 : Nat), .int .u8 (y.v0 : Nat), .int .u8 (y.v1 : Nat), .int .u8 (y.v2 : Nat), .int .i32 y.k0, .int .i32 y.k1, .int .i32 y.k2, .int .i32 y.k3]), .agg (poA ⟨x.p0, x.p1, x.p2, x.p3, x.p4, x.p5, x.p6, x.p7, x.p8, x.p9, x.p10, x.p11, x.p12, (u.r : Nat), (u.c : Nat), (u.b : Nat), (u.p : Nat), x.p17, x.p18, x.p19, x.p20⟩), .tuple #[.agg (poA Q), .bool true, .bool op], .agg (poA ⟨x.p0, x.p1, x.p2, x.p3, x.p4, x.p5, x.p6, x.p7, x.p8, x.p9, x.p10, x.p11, x.p12, (u.r : Nat), (u.c : Nat), (u.b : Nat), (u.p : Nat), x.p17, x.p18, x.p19, x.p20⟩), .int .i64 4, .agg (vcA v), .agg (cfA ⟨0, 0, 0, dl, 0, 0⟩), .tuple #[.agg (poA Q), .bool true, .bool op], .agg (poA Q), .bool true, .bool op, .agg (poA ⟨x.p0, x.p1, x.p2, x.p3, x.p4, x.p5, x.p6, x.p7, x.p8, x.p9, x.p10, x.p11, x.p12, (u.r : Nat), (u.c : Nat), (u.b : Nat), (u.p : Nat), x.p17, x.p18, x.p19, x.p20⟩), .int .i64 4, .pointer (some ⟨b5, 10, none⟩), .int .i64 4, .bool false, .bool false, .int .i64 4, .bool false, .bool false, undef, undef, undef, .int .i64 4, .bool false, .bool false, undef, undef, undef, .bool false, undef, undef, undef, .int .i64 4, .bool true, .pointer (some ⟨b10, 10, none⟩), .int .i64 x.p10, .bool true, .bool true, undef, undef, undef, .bool true, .bool true, undef, undef, undef, undef, .bool true, .bool true, .agg (vcA v), .pointer (some ⟨b5, 12, none⟩), .pointer (some ⟨b5, 13, none⟩), .pointer (some ⟨b5, 17, none⟩), .pointer (some ⟨b5, 18, none⟩), .pointer (some ⟨b5, 9, none⟩), undef, undef, undef, undef, undef, undef, undef, undef, undef, undef, undef, undef, undef, undef, undef, undef, undef, undef, undef, undef, undef, undef, undef, undef, undef, undef, undef, undef, undef, undef, undef, undef, undef, undef, undef], defers := [] } := by unfold AsYb1; simp only [hall 0 (by decide), hall 1 (by decide), hall 3 (by decide), hall 5 (by decide), hall 7 (by decide), hall 9 (by decide), cond_true]
      rw [hfr]
      clear hfr
      have hL2 := hall 2 (by decide)
      have hL4 := hall 4 (by decide)
      have hL6 := hall 6 (by decide)
      have hL8 := hall 8 (by decide)
      have hL10 := hall 10 (by decide)
      simp only [hL2, hL4, hL6, hL8, hL10, cond_true] at hw
      have K13 := Lib.hid (show Kb w [(b1, askA y rl t0 t1 t2 dl, 28), (b3x, vcA v, 35), (b3y, cfA ⟨0, 0, 0, dl, 0, 0⟩, 38), (b5, poA ⟨x.p0, x.p1, x.p2, x.p3, x.p4, x.p5, x.p6, x.p7, x.p8, false, 4, x.p11, 1, (v.r : Nat), (v.c : Nat), (v.b : Nat), (v.p : Nat), 0, 0, x.p19, x.p20⟩, 42), (b8, poA Q, 42), (b10, poA ⟨x.p0, x.p1, x.p2, x.p3, x.p4, x.p5, x.p6, x.p7, x.p8, x.p9, x.p10, x.p11, x.p12, (u.r : Nat), (u.c : Nat), (u.b : Nat), (u.p : Nat), x.p17, x.p18, x.p19, x.p20⟩, 42)] w13 from hw)
      clear hw hall hL2 hL4 hL6 hL8 hL10
      go_upto_region 17 with fail
      refine wp_region_lit ?_
      refine wpList_val (.pointer (some ⟨b10, 10, none⟩)) (by rfl) (by go_simp) ?_
      (try simp only [Act.put, List.getElem_toArray, List.getElem_cons_succ, List.getElem_cons_zero, List.setIfInBounds_toArray, List.set_cons_zero, List.set_cons_succ])
      refine wpList_val (.int .i64 x.p10) (by rfl) (by have q : w13.cell? ⟨b10, 10, none⟩ = some (.int .i64 x.p10) := K13.out.cell (i := 5) rfl (by rfl); go_simp) ?_
      (try simp only [Act.put, List.getElem_toArray, List.getElem_cons_succ, List.getElem_cons_zero, List.setIfInBounds_toArray, List.set_cons_zero, List.set_cons_succ])
      refine wpList_val (.bool true) (by rfl) (by have q := HP10.out; go_simp) ?_
      (try simp only [Act.put, List.getElem_toArray, List.getElem_cons_succ, List.getElem_cons_zero, List.setIfInBounds_toArray, List.set_cons_zero, List.set_cons_succ])
      refine wpList_nil ?_
      go_upto_region 18 with fail
      refine wp_region_inv (I := fun L ac w' => ac = AsZb1 y rl t0 t1 t2 dl u v x Q op b1 b3x b3y b5 b8 b10 L ∧ Kb w [(b1, askA y rl t0 t1 t2 dl, 28), (b3x, vcA v, 35), (b3y, cfA ⟨0, 0, 0, dl, 0, 0⟩, 38), (b5, poA ⟨x.p0, x.p1, x.p2, x.p3, x.p4, x.p5, x.p6, x.p7, x.p8, false, 4, (bif L 3 then 0 else x.p11), 1, (v.r : Nat), (v.c : Nat), (v.b : Nat), (v.p : Nat), 0, 0, (bif L 5 then dl else x.p19), x.p20⟩, 42), (b8, poA Q, 42), (b10, poA ⟨x.p0, x.p1, x.p2, x.p3, x.p4, x.p5, x.p6, x.p7, x.p8, x.p9, x.p10, x.p11, x.p12, (u.r : Nat), (u.c : Nat), (u.b : Nat), (u.p : Nat), x.p17, x.p18, x.p19, x.p20⟩, 42)] w') (by kernel_rfl) (by kernel_rfl) ⟨by kernel_rfl, K13.out.drew⟩ ?_ ?_
      · intro i hi Lx ac w' hI hL haft
        obtain ⟨rfl, hw⟩ := hI
        match i, hi with
        | 0, _ =>
          have g5 : (AsZb1 y rl t0 t1 t2 dl u v x Q op b1 b3x b3y b5 b8 b10 Lx).tmps[5]?.getD undef = .pointer (some ⟨b3y, 0, none⟩) := by kernel_rfl
          have e5 : (AsZb1 y rl t0 t1 t2 dl u v x Q op b1 b3x b3y b5 b8 b10 Lx).eval (.tmp 5) = .pointer (some ⟨b3y, 0, none⟩) := by kernel_rfl
          exact i_val rfl (.pointer (some ⟨b3y, 3, none⟩)) w' (by rfl) (by go_simp) ⟨by kernel_rfl, hw⟩
        | 1, _ =>
          have h0 := haft 0 (by decide)
          have e84 : (AsZb1 y rl t0 t1 t2 dl u v x Q op b1 b3x b3y b5 b8 b10 Lx).eval (.tmp 84) = .pointer (some ⟨b3y, 3, none⟩) := by show (bif Lx 0 then _ else _) = _; rw [h0]; rfl
          have g84 : (AsZb1 y rl t0 t1 t2 dl u v x Q op b1 b3x b3y b5 b8 b10 Lx).tmps[84]?.getD undef = .pointer (some ⟨b3y, 3, none⟩) := by show (bif Lx 0 then _ else _) = _; rw [h0]; rfl
          exact i_val rfl (.int .i64 dl) w' (by rfl) (by have q : w'.cell? ⟨b3y, 3, none⟩ = some (.int .i64 dl) := Kb.cell (i := 2) hw rfl (by rfl); go_simp) ⟨by kernel_rfl, hw⟩
        | 2, _ =>
          have g6 : (AsZb1 y rl t0 t1 t2 dl u v x Q op b1 b3x b3y b5 b8 b10 Lx).tmps[6]?.getD undef = .pointer (some ⟨b5, 0, none⟩) := by kernel_rfl
          have e6 : (AsZb1 y rl t0 t1 t2 dl u v x Q op b1 b3x b3y b5 b8 b10 Lx).eval (.tmp 6) = .pointer (some ⟨b5, 0, none⟩) := by kernel_rfl
          exact i_val rfl (.pointer (some ⟨b5, 11, none⟩)) w' (by rfl) (by go_simp) ⟨by kernel_rfl, hw⟩
        | 3, _ =>
          have h2 := haft 2 (by decide)
          have e86 : (AsZb1 y rl t0 t1 t2 dl u v x Q op b1 b3x b3y b5 b8 b10 Lx).eval (.tmp 86) = .pointer (some ⟨b5, 11, none⟩) := by show (bif Lx 2 then _ else _) = _; rw [h2]; rfl
          have g86 : (AsZb1 y rl t0 t1 t2 dl u v x Q op b1 b3x b3y b5 b8 b10 Lx).tmps[86]?.getD undef = .pointer (some ⟨b5, 11, none⟩) := by show (bif Lx 2 then _ else _) = _; rw [h2]; rfl
          exact i_wp rfl (by rfl) (wp_store_cell 3 _ _ rfl ⟨b5, 11, none⟩ (.int .i64 0) e86 rfl (kb_run_set hw (i := 3) rfl 3 11 (.int .i64 (bif Lx 3 then 0 else x.p11)) (.int .i64 0) (by rfl) (fun W h1 h2 => by go_simp)) ⟨by kernel_rfl, cast_blk (Kb.set (i := 3) hw rfl 11 (.int .i64 0)) (by rfl)⟩)
        | 4, _ =>
          have g6 : (AsZb1 y rl t0 t1 t2 dl u v x Q op b1 b3x b3y b5 b8 b10 Lx).tmps[6]?.getD undef = .pointer (some ⟨b5, 0, none⟩) := by kernel_rfl
          have e6 : (AsZb1 y rl t0 t1 t2 dl u v x Q op b1 b3x b3y b5 b8 b10 Lx).eval (.tmp 6) = .pointer (some ⟨b5, 0, none⟩) := by kernel_rfl
          exact i_val rfl (.pointer (some ⟨b5, 19, none⟩)) w' (by rfl) (by go_simp) ⟨by kernel_rfl, hw⟩
        | 5, _ =>
          have h1 := haft 1 (by decide)
          have e85 : (AsZb1 y rl t0 t1 t2 dl u v x Q op b1 b3x b3y b5 b8 b10 Lx).eval (.tmp 85) = .int .i64 dl := by show (bif Lx 1 then _ else _) = _; rw [h1]; rfl
          have g85 : (AsZb1 y rl t0 t1 t2 dl u v x Q op b1 b3x b3y b5 b8 b10 Lx).tmps[85]?.getD undef = .int .i64 dl := by show (bif Lx 1 then _ else _) = _; rw [h1]; rfl
          have h4 := haft 4 (by decide)
          have e87 : (AsZb1 y rl t0 t1 t2 dl u v x Q op b1 b3x b3y b5 b8 b10 Lx).eval (.tmp 87) = .pointer (some ⟨b5, 19, none⟩) := by show (bif Lx 4 then _ else _) = _; rw [h4]; rfl
          have g87 : (AsZb1 y rl t0 t1 t2 dl u v x Q op b1 b3x b3y b5 b8 b10 Lx).tmps[87]?.getD undef = .pointer (some ⟨b5, 19, none⟩) := by show (bif Lx 4 then _ else _) = _; rw [h4]; rfl
          exact i_wp rfl (by rfl) (wp_store_cell 3 _ _ rfl ⟨b5, 19, none⟩ (.int .i64 dl) e87 e85 (kb_run_set hw (i := 3) rfl 3 19 (.int .i64 (bif Lx 5 then dl else x.p19)) (.int .i64 dl) (by rfl) (fun W h1 h2 => by go_simp)) ⟨by kernel_rfl, cast_blk (Kb.set (i := 3) hw rfl 19 (.int .i64 dl)) (by rfl)⟩)
        | k + 6, h =>
          exfalso
          have h2 : k + 6 < 6 := h
          omega
      intro Lx ac w14 hI hall
      obtain ⟨rfl, hw⟩ := hI
      have hfr : AsZb1 y rl t0 t1 t2 dl u v x Q op b1 b3x b3y b5 b8 b10 Lx = { tmps := #[.agg (askA y rl t0 t1 t2 dl), .pointer (some ⟨b1, 0, none⟩), .bool false, .int .i64 4, .pointer (some ⟨b3x, 0, none⟩), .pointer (some ⟨b3y, 0, none⟩), .pointer (some ⟨b5, 0, none⟩), .pointer (some ⟨b8, 0, none⟩), .bool true, .bool op, .pointer (some ⟨b10, 0, none⟩), .bool true, .bool true, .bool false, .pointer (some ⟨b1, 15, none⟩), .int .u8 (rl : Nat), .int .u8 (Int.tmod (rl : Nat) 5), .int .i64 4, .pointer (some ⟨b1, 16, none⟩), .agg (#[.int .u8 (t0 : Nat), .int .u8 (t1 : Nat), .int .u8 (t2 : Nat)]), .agg (vcA v), .pointer (some ⟨b1, 19, none⟩), .int .i64 dl, .agg (cfA ⟨0, 0, 0, dl, 0, 0⟩), .pointer (some ⟨b1, 0, none⟩), .agg (#[.bool y.f0, .bool y.f1, .bool y.f2, .bool y.f3, .bool y.f4, .int .u8 (y.n0 : Nat), .int .u8 (y.n1 : Nat), .int .u8 (y.n2 : Nat), .int .u8 (y.v0 : Nat), .int .u8 (y.v1 : Nat), .int .u8 (y.v2 : Nat), .int .i32 y.k0, .int .i32 y.k1, .int .i32 y.k2, .int .i32 y.k3]), .agg (poA ⟨x.p0, x.p1, x.p2, x.p3, x.p4, x.p5, x.p6, x.p7, x.p8, x.p9, x.p10, x.p11, x.p12, (u.r : Nat), (u.c : Nat), (u.b : Nat), (u.p : Nat), x.p17, x.p18, x.p19, x.p20⟩), .tuple #[.agg (poA Q), .bool true, .bool op], .agg (poA ⟨x.p0, x.p1, x.p2, x.p3, x.p4, x.p5, x.p6, x.p7, x.p8, x.p9, x.p10, x.p11, x.p12, (u.r : Nat), (u.c : Nat), (u.b : Nat), (u.p : Nat), x.p17, x.p18, x.p19, x.p20⟩), .int .i64 4, .agg (vcA v), .agg (cfA ⟨0, 0, 0, dl, 0, 0⟩), .tuple #[.agg (poA Q), .bool true, .bool op], .agg (poA Q), .bool true, .bool op, .agg (poA ⟨x.p0, x.p1, x.p2, x.p3, x.p4, x.p5, x.p6, x.p7, x.p8, x.p9, x.p10, x.p11, x.p12, (u.r : Nat), (u.c : Nat), (u.b : Nat), (u.p : Nat), x.p17, x.p18, x.p19, x.p20⟩), .int .i64 4, .pointer (some ⟨b5, 10, none⟩), .int .i64 4, .bool false, .bool false, .int .i64 4, .bool false, .bool false, undef, undef, undef, .int .i64 4, .bool false, .bool false, undef, undef, undef, .bool false, undef, undef, undef, .int .i64 4, .bool true, .pointer (some ⟨b10, 10, none⟩), .int .i64 x.p10, .bool true, .bool true, undef, undef, undef, .bool true, .bool true, undef, undef, undef, undef, .bool true, .bool true, .agg (vcA v), .pointer (some ⟨b5, 12, none⟩), .pointer (some ⟨b5, 13, none⟩), .pointer (some ⟨b5, 17, none⟩), .pointer (some ⟨b5, 18, none⟩), .pointer (some ⟨b5, 9, none⟩), .pointer (some ⟨b10, 10, none⟩), .int .i64 x.p10, .bool true, .pointer (some ⟨b3y, 3, none⟩), .int .i64 dl, .pointer (some ⟨b5, 11, none⟩), .pointer (some ⟨b5, 19, none⟩), undef, undef, undef, undef, undef, undef, undef, undef, undef, undef, undef, undef, undef, undef, undef, undef, undef, undef, undef, undef, undef, undef, undef, undef, undef, undef, undef, undef], defers := [] } := by unfold AsZb1; simp only [hall 0 (by decide), hall 1 (by decide), hall 2 (by decide), hall 4 (by decide), cond_true]
      rw [hfr]
      clear hfr
      have hL3 := hall 3 (by decide)
      have hL5 := hall 5 (by decide)
      simp only [hL3, hL5, cond_true] at hw
      have K14 := Lib.hid (show Kb w [(b1, askA y rl t0 t1 t2 dl, 28), (b3x, vcA v, 35), (b3y, cfA ⟨0, 0, 0, dl, 0, 0⟩, 38), (b5, poA ⟨x.p0, x.p1, x.p2, x.p3, x.p4, x.p5, x.p6, x.p7, x.p8, false, 4, 0, 1, (v.r : Nat), (v.c : Nat), (v.b : Nat), (v.p : Nat), 0, 0, dl, x.p20⟩, 42), (b8, poA Q, 42), (b10, poA ⟨x.p0, x.p1, x.p2, x.p3, x.p4, x.p5, x.p6, x.p7, x.p8, x.p9, x.p10, x.p11, x.p12, (u.r : Nat), (u.c : Nat), (u.b : Nat), (u.p : Nat), x.p17, x.p18, x.p19, x.p20⟩, 42)] w14 from hw)
      clear hw hall hL3 hL5
      go_upto_region 19 with fail
      refine wp_region_lit ?_
      refine wpList_val (.pointer (some ⟨b10, 5, none⟩)) (by rfl) (by go_simp) ?_
      (try simp only [Act.put, List.getElem_toArray, List.getElem_cons_succ, List.getElem_cons_zero, List.setIfInBounds_toArray, List.set_cons_zero, List.set_cons_succ])
      refine wpList_val (.bool false) (by rfl) (by have q : w14.cell? ⟨b10, 5, none⟩ = some (.bool x.p5) := K14.out.cell (i := 5) rfl (by rfl); rw [H5.out] at q; go_simp) ?_
      (try simp only [Act.put, List.getElem_toArray, List.getElem_cons_succ, List.getElem_cons_zero, List.setIfInBounds_toArray, List.set_cons_zero, List.set_cons_succ])
      refine wpList_val (.bool false) (by rfl) (by go_simp) ?_
      (try simp only [Act.put, List.getElem_toArray, List.getElem_cons_succ, List.getElem_cons_zero, List.setIfInBounds_toArray, List.set_cons_zero, List.set_cons_succ])
      refine wpList_skip (by kernel_rfl) ?_
      (try simp only [Act.put, List.getElem_toArray, List.getElem_cons_succ, List.getElem_cons_zero, List.setIfInBounds_toArray, List.set_cons_zero, List.set_cons_succ])
      refine wpList_skip (by kernel_rfl) ?_
      (try simp only [Act.put, List.getElem_toArray, List.getElem_cons_succ, List.getElem_cons_zero, List.setIfInBounds_toArray, List.set_cons_zero, List.set_cons_succ])
      refine wpList_val (.bool false) (by rfl) (run_pick_no (.tmp 90) (.tmp 92) (.const (.bool false)) _ rfl rfl rfl) ?_
      (try simp only [Act.put, List.getElem_toArray, List.getElem_cons_succ, List.getElem_cons_zero, List.setIfInBounds_toArray, List.set_cons_zero, List.set_cons_succ])
      refine wpList_nil ?_
      go_upto_region 21 with fail
      have hop : op = (decide (0 = (2 : Int)) && !decide (x.p11 = 2)) := by rw [HO.out, HQQ.out]; rfl
      have HOP := Lib.hid (show op = false from by rw [hop]; simp)
      clear hop
      refine wp_region_lit ?_
      refine wpList_val (.agg (poA Q)) (by rfl) (kb_all K14.out 4 rfl 42 _ rfl rfl Try.underlying42 rfl (size50)) ?_
      (try simp only [Act.put, List.getElem_toArray, List.getElem_cons_succ, List.getElem_cons_zero, List.setIfInBounds_toArray, List.set_cons_zero, List.set_cons_succ])
      refine wpList_val (.agg (poA ⟨x.p0, x.p1, x.p2, x.p3, x.p4, x.p5, x.p6, x.p7, x.p8, false, 4, 0, 1, (v.r : Nat), (v.c : Nat), (v.b : Nat), (v.p : Nat), 0, 0, dl, x.p20⟩)) (by rfl) (kb_all K14.out 3 rfl 42 _ rfl rfl Try.underlying42 rfl (size50)) ?_
      (try simp only [Act.put, List.getElem_toArray, List.getElem_cons_succ, List.getElem_cons_zero, List.setIfInBounds_toArray, List.set_cons_zero, List.set_cons_succ])
      refine wpList_val (.bool true) (by rfl) (by have q := eq_po2 (show Q = ⟨x.p0, x.p1, x.p2, x.p3, x.p4, x.p5, x.p6, x.p7, x.p8, false, 4, 0, 1, (v.r : Nat), (v.c : Nat), (v.b : Nat), (v.p : Nat), 0, 0, dl, x.p20⟩ from HQQ.out); go_simp) ?_
      (try simp only [Act.put, List.getElem_toArray, List.getElem_cons_succ, List.getElem_cons_zero, List.setIfInBounds_toArray, List.set_cons_zero, List.set_cons_succ])
      refine wpList_val (.bool true) (by rfl) (by go_simp) ?_
      (try simp only [Act.put, List.getElem_toArray, List.getElem_cons_succ, List.getElem_cons_zero, List.setIfInBounds_toArray, List.set_cons_zero, List.set_cons_succ])
      refine wpList_val (.bool true) (by rfl) (by go_simp) ?_
      (try simp only [Act.put, List.getElem_toArray, List.getElem_cons_succ, List.getElem_cons_zero, List.setIfInBounds_toArray, List.set_cons_zero, List.set_cons_succ])
      refine wpList_val (.bool true) (by rfl) (by go_simp) ?_
      (try simp only [Act.put, List.getElem_toArray, List.getElem_cons_succ, List.getElem_cons_zero, List.setIfInBounds_toArray, List.set_cons_zero, List.set_cons_succ])
      refine wpList_val (.bool true) (by rfl) (by go_simp) ?_
      (try simp only [Act.put, List.getElem_toArray, List.getElem_cons_succ, List.getElem_cons_zero, List.setIfInBounds_toArray, List.set_cons_zero, List.set_cons_succ])
      refine wpList_val (.bool true) (by rfl) (run_pick_yes (.tmp 99) (.tmp 102) (.const (.bool false)) _ rfl rfl rfl) ?_
      (try simp only [Act.put, List.getElem_toArray, List.getElem_cons_succ, List.getElem_cons_zero, List.setIfInBounds_toArray, List.set_cons_zero, List.set_cons_succ])
      refine wpList_val (.bool true) (by rfl) (by go_simp) ?_
      (try simp only [Act.put, List.getElem_toArray, List.getElem_cons_succ, List.getElem_cons_zero, List.setIfInBounds_toArray, List.set_cons_zero, List.set_cons_succ])
      refine wpList_val (.bool op) (by rfl) (by go_simp) ?_
      (try simp only [Act.put, List.getElem_toArray, List.getElem_cons_succ, List.getElem_cons_zero, List.setIfInBounds_toArray, List.set_cons_zero, List.set_cons_succ])
      refine wpList_val (.pointer (some ⟨b5, 11, none⟩)) (by rfl) (by go_simp) ?_
      (try simp only [Act.put, List.getElem_toArray, List.getElem_cons_succ, List.getElem_cons_zero, List.setIfInBounds_toArray, List.set_cons_zero, List.set_cons_succ])
      refine wpList_val (.int .i64 0) (by rfl) (by have q : w14.cell? ⟨b5, 11, none⟩ = some (.int .i64 0) := K14.out.cell (i := 3) rfl (by rfl); go_simp) ?_
      (try simp only [Act.put, List.getElem_toArray, List.getElem_cons_succ, List.getElem_cons_zero, List.setIfInBounds_toArray, List.set_cons_zero, List.set_cons_succ])
      refine wpList_val (.bool false) (by rfl) (by go_simp) ?_
      (try simp only [Act.put, List.getElem_toArray, List.getElem_cons_succ, List.getElem_cons_zero, List.setIfInBounds_toArray, List.set_cons_zero, List.set_cons_succ])
      refine wpList_val (.bool false) (by rfl) (by go_simp) ?_
      (try simp only [Act.put, List.getElem_toArray, List.getElem_cons_succ, List.getElem_cons_zero, List.setIfInBounds_toArray, List.set_cons_zero, List.set_cons_succ])
      refine wpList_skip (by kernel_rfl) ?_
      (try simp only [Act.put, List.getElem_toArray, List.getElem_cons_succ, List.getElem_cons_zero, List.setIfInBounds_toArray, List.set_cons_zero, List.set_cons_succ])
      refine wpList_skip (by kernel_rfl) ?_
      (try simp only [Act.put, List.getElem_toArray, List.getElem_cons_succ, List.getElem_cons_zero, List.setIfInBounds_toArray, List.set_cons_zero, List.set_cons_succ])
      refine wpList_skip (by kernel_rfl) ?_
      (try simp only [Act.put, List.getElem_toArray, List.getElem_cons_succ, List.getElem_cons_zero, List.setIfInBounds_toArray, List.set_cons_zero, List.set_cons_succ])
      refine wpList_val (.bool false) (by rfl) (run_pick_no (.tmp 109) (.tmp 112) (.const (.bool false)) _ rfl rfl rfl) ?_
      (try simp only [Act.put, List.getElem_toArray, List.getElem_cons_succ, List.getElem_cons_zero, List.setIfInBounds_toArray, List.set_cons_zero, List.set_cons_succ])
      refine wpList_val (.bool true) (by rfl) (by have q := HOP.out; go_simp) ?_
      (try simp only [Act.put, List.getElem_toArray, List.getElem_cons_succ, List.getElem_cons_zero, List.setIfInBounds_toArray, List.set_cons_zero, List.set_cons_succ])
      refine wpList_val (.bool true) (by rfl) (run_pick_yes (.tmp 104) (.tmp 114) (.const (.bool false)) _ rfl rfl rfl) ?_
      (try simp only [Act.put, List.getElem_toArray, List.getElem_cons_succ, List.getElem_cons_zero, List.setIfInBounds_toArray, List.set_cons_zero, List.set_cons_succ])
      refine wpList_val (.bool true) (by rfl) (by go_simp) ?_
      (try simp only [Act.put, List.getElem_toArray, List.getElem_cons_succ, List.getElem_cons_zero, List.setIfInBounds_toArray, List.set_cons_zero, List.set_cons_succ])
      refine wpList_nil ?_
      go_wp2_with fail
      go_ret
      exact ⟨ret_bool (rfl), K14.out.below⟩
    case inr =>
      have H5 := Lib.hid h5
      clear h5
      rcases bool_two x.p8 with h8 | h8
      case inl =>
        have H8 := Lib.hid h8
        clear h8
        have hB : desB x u v = true := by simp [desB, HP10.out]
        have HB := Lib.hid hB
        clear hB
        have hed : edgeB x = false := by simp [edgeB, H5.out, H8.out]
        have HED := Lib.hid hed
        clear hed
        have ha : an = true := by rw [HAN.out]; simp [assumeN, HB.out]
        subst ha
        have hq : Q = ⟨x.p0, x.p1, x.p2, x.p3, x.p4, x.p5, x.p6, x.p7, x.p8, false, 4, 0, 1, (v.r : Nat), (v.c : Nat), (v.b : Nat), (v.p : Nat), 0, 0, dl, x.p20⟩ := by rw [HQ.out]; unfold assumeP; rw [if_neg (by decide), if_neg (by decide), if_pos rfl]; simp [desP, desV, HB.out, HED.out, HP10.out]
        have HQQ := Lib.hid hq
        clear hq
        refine wp_region_lit ?_
        refine wpList_val (.int .i64 4) (by rfl) (by go_simp) ?_
        (try simp only [Act.put, List.getElem_toArray, List.getElem_cons_succ, List.getElem_cons_zero, List.setIfInBounds_toArray, List.set_cons_zero, List.set_cons_succ])
        refine wpList_val (.bool false) (by rfl) (by go_simp) ?_
        (try simp only [Act.put, List.getElem_toArray, List.getElem_cons_succ, List.getElem_cons_zero, List.setIfInBounds_toArray, List.set_cons_zero, List.set_cons_succ])
        refine wpList_val (.bool false) (by rfl) (by go_simp) ?_
        (try simp only [Act.put, List.getElem_toArray, List.getElem_cons_succ, List.getElem_cons_zero, List.setIfInBounds_toArray, List.set_cons_zero, List.set_cons_succ])
        refine wpList_val (.int .i64 4) (by rfl) (by go_simp) ?_
        (try simp only [Act.put, List.getElem_toArray, List.getElem_cons_succ, List.getElem_cons_zero, List.setIfInBounds_toArray, List.set_cons_zero, List.set_cons_succ])
        refine wpList_val (.bool false) (by rfl) (by go_simp) ?_
        (try simp only [Act.put, List.getElem_toArray, List.getElem_cons_succ, List.getElem_cons_zero, List.setIfInBounds_toArray, List.set_cons_zero, List.set_cons_succ])
        refine wpList_val (.bool false) (by rfl) (run_pick_no (.tmp 41) (.const (.bool true)) (.tmp 43) _ rfl rfl rfl) ?_
        (try simp only [Act.put, List.getElem_toArray, List.getElem_cons_succ, List.getElem_cons_zero, List.setIfInBounds_toArray, List.set_cons_zero, List.set_cons_succ])
        refine wpList_nil ?_
        go_upto_region 11 with fail
        refine wp_region_lit ?_
        refine wpList_val (.int .i64 4) (by rfl) (by go_simp) ?_
        (try simp only [Act.put, List.getElem_toArray, List.getElem_cons_succ, List.getElem_cons_zero, List.setIfInBounds_toArray, List.set_cons_zero, List.set_cons_succ])
        refine wpList_val (.bool false) (by rfl) (by go_simp) ?_
        (try simp only [Act.put, List.getElem_toArray, List.getElem_cons_succ, List.getElem_cons_zero, List.setIfInBounds_toArray, List.set_cons_zero, List.set_cons_succ])
        refine wpList_val (.bool false) (by rfl) (by go_simp) ?_
        (try simp only [Act.put, List.getElem_toArray, List.getElem_cons_succ, List.getElem_cons_zero, List.setIfInBounds_toArray, List.set_cons_zero, List.set_cons_succ])
        refine wpList_skip (by kernel_rfl) ?_
        (try simp only [Act.put, List.getElem_toArray, List.getElem_cons_succ, List.getElem_cons_zero, List.setIfInBounds_toArray, List.set_cons_zero, List.set_cons_succ])
        refine wpList_skip (by kernel_rfl) ?_
        (try simp only [Act.put, List.getElem_toArray, List.getElem_cons_succ, List.getElem_cons_zero, List.setIfInBounds_toArray, List.set_cons_zero, List.set_cons_succ])
        refine wpList_skip (by kernel_rfl) ?_
        (try simp only [Act.put, List.getElem_toArray, List.getElem_cons_succ, List.getElem_cons_zero, List.setIfInBounds_toArray, List.set_cons_zero, List.set_cons_succ])
        refine wpList_val (.bool false) (by rfl) (run_pick_no (.tmp 50) (.tmp 53) (.const (.bool false)) _ rfl rfl rfl) ?_
        (try simp only [Act.put, List.getElem_toArray, List.getElem_cons_succ, List.getElem_cons_zero, List.setIfInBounds_toArray, List.set_cons_zero, List.set_cons_succ])
        refine wpList_nil ?_
        go_upto_region 13 with fail
        refine wp_region_lit ?_
        refine wpList_val (.int .i64 4) (by rfl) (by go_simp) ?_
        (try simp only [Act.put, List.getElem_toArray, List.getElem_cons_succ, List.getElem_cons_zero, List.setIfInBounds_toArray, List.set_cons_zero, List.set_cons_succ])
        refine wpList_val (.bool true) (by rfl) (by go_simp) ?_
        (try simp only [Act.put, List.getElem_toArray, List.getElem_cons_succ, List.getElem_cons_zero, List.setIfInBounds_toArray, List.set_cons_zero, List.set_cons_succ])
        refine wpList_nil ?_
        go_upto_region 14 with fail
        refine wp_region_lit ?_
        refine wpList_val (.pointer (some ⟨b10, 10, none⟩)) (by rfl) (by go_simp) ?_
        (try simp only [Act.put, List.getElem_toArray, List.getElem_cons_succ, List.getElem_cons_zero, List.setIfInBounds_toArray, List.set_cons_zero, List.set_cons_succ])
        refine wpList_val (.int .i64 x.p10) (by rfl) (by have q : w12.cell? ⟨b10, 10, none⟩ = some (.int .i64 x.p10) := K12.out.cell (i := 5) rfl (by rfl); go_simp) ?_
        (try simp only [Act.put, List.getElem_toArray, List.getElem_cons_succ, List.getElem_cons_zero, List.setIfInBounds_toArray, List.set_cons_zero, List.set_cons_succ])
        refine wpList_val (.bool true) (by rfl) (by have q := HP10.out; go_simp) ?_
        (try simp only [Act.put, List.getElem_toArray, List.getElem_cons_succ, List.getElem_cons_zero, List.setIfInBounds_toArray, List.set_cons_zero, List.set_cons_succ])
        refine wpList_val (.bool true) (by rfl) (by go_simp) ?_
        (try simp only [Act.put, List.getElem_toArray, List.getElem_cons_succ, List.getElem_cons_zero, List.setIfInBounds_toArray, List.set_cons_zero, List.set_cons_succ])
        refine wpList_skip (by kernel_rfl) ?_
        (try simp only [Act.put, List.getElem_toArray, List.getElem_cons_succ, List.getElem_cons_zero, List.setIfInBounds_toArray, List.set_cons_zero, List.set_cons_succ])
        refine wpList_skip (by kernel_rfl) ?_
        (try simp only [Act.put, List.getElem_toArray, List.getElem_cons_succ, List.getElem_cons_zero, List.setIfInBounds_toArray, List.set_cons_zero, List.set_cons_succ])
        refine wpList_skip (by kernel_rfl) ?_
        (try simp only [Act.put, List.getElem_toArray, List.getElem_cons_succ, List.getElem_cons_zero, List.setIfInBounds_toArray, List.set_cons_zero, List.set_cons_succ])
        refine wpList_val (.bool true) (by rfl) (run_pick_yes (.tmp 63) (.const (.bool true)) (.tmp 66) _ rfl rfl rfl) ?_
        (try simp only [Act.put, List.getElem_toArray, List.getElem_cons_succ, List.getElem_cons_zero, List.setIfInBounds_toArray, List.set_cons_zero, List.set_cons_succ])
        refine wpList_val (.bool true) (by rfl) (by go_simp) ?_
        (try simp only [Act.put, List.getElem_toArray, List.getElem_cons_succ, List.getElem_cons_zero, List.setIfInBounds_toArray, List.set_cons_zero, List.set_cons_succ])
        refine wpList_skip (by kernel_rfl) ?_
        (try simp only [Act.put, List.getElem_toArray, List.getElem_cons_succ, List.getElem_cons_zero, List.setIfInBounds_toArray, List.set_cons_zero, List.set_cons_succ])
        refine wpList_skip (by kernel_rfl) ?_
        (try simp only [Act.put, List.getElem_toArray, List.getElem_cons_succ, List.getElem_cons_zero, List.setIfInBounds_toArray, List.set_cons_zero, List.set_cons_succ])
        refine wpList_skip (by kernel_rfl) ?_
        (try simp only [Act.put, List.getElem_toArray, List.getElem_cons_succ, List.getElem_cons_zero, List.setIfInBounds_toArray, List.set_cons_zero, List.set_cons_succ])
        refine wpList_skip (by kernel_rfl) ?_
        (try simp only [Act.put, List.getElem_toArray, List.getElem_cons_succ, List.getElem_cons_zero, List.setIfInBounds_toArray, List.set_cons_zero, List.set_cons_succ])
        refine wpList_val (.bool true) (by rfl) (run_pick_yes (.tmp 68) (.const (.bool true)) (.tmp 72) _ rfl rfl rfl) ?_
        (try simp only [Act.put, List.getElem_toArray, List.getElem_cons_succ, List.getElem_cons_zero, List.setIfInBounds_toArray, List.set_cons_zero, List.set_cons_succ])
        refine wpList_val (.bool true) (by rfl) (by go_simp) ?_
        (try simp only [Act.put, List.getElem_toArray, List.getElem_cons_succ, List.getElem_cons_zero, List.setIfInBounds_toArray, List.set_cons_zero, List.set_cons_succ])
        refine wpList_nil ?_
        go_upto_region 15 with fail
        refine wp_region_lit ?_
        refine wpList_val (.bool true) (by rfl) (by go_simp) ?_
        (try simp only [Act.put, List.getElem_toArray, List.getElem_cons_succ, List.getElem_cons_zero, List.setIfInBounds_toArray, List.set_cons_zero, List.set_cons_succ])
        refine wpList_nil ?_
        go_upto_region 16 with fail
        refine wp_region_inv (I := fun L ac w' => ac = AsYb2 y rl t0 t1 t2 dl u v x Q op b1 b3x b3y b5 b8 b10 L ∧ Kb w [(b1, askA y rl t0 t1 t2 dl, 28), (b3x, vcA v, 35), (b3y, cfA ⟨0, 0, 0, dl, 0, 0⟩, 38), (b5, poA ⟨x.p0, x.p1, x.p2, x.p3, x.p4, x.p5, x.p6, x.p7, x.p8, (bif L 10 then false else x.p9), 4, x.p11, (bif L 2 then 1 else x.p12), (bif L 4 then (v.r : Nat) else (u.r : Nat)), (bif L 4 then (v.c : Nat) else (u.c : Nat)), (bif L 4 then (v.b : Nat) else (u.b : Nat)), (bif L 4 then (v.p : Nat) else (u.p : Nat)), (bif L 6 then 0 else x.p17), (bif L 8 then 0 else x.p18), x.p19, x.p20⟩, 42), (b8, poA Q, 42), (b10, poA ⟨x.p0, x.p1, x.p2, x.p3, x.p4, x.p5, x.p6, x.p7, x.p8, x.p9, x.p10, x.p11, x.p12, (u.r : Nat), (u.c : Nat), (u.b : Nat), (u.p : Nat), x.p17, x.p18, x.p19, x.p20⟩, 42)] w') (by kernel_rfl) (by kernel_rfl) ⟨by kernel_rfl, K12.out.drew⟩ ?_ ?_
        · intro i hi Lx ac w' hI hL haft
          obtain ⟨rfl, hw⟩ := hI
          match i, hi with
          | 0, _ =>
            have g4 : (AsYb2 y rl t0 t1 t2 dl u v x Q op b1 b3x b3y b5 b8 b10 Lx).tmps[4]?.getD undef = .pointer (some ⟨b3x, 0, none⟩) := by kernel_rfl
            have e4 : (AsYb2 y rl t0 t1 t2 dl u v x Q op b1 b3x b3y b5 b8 b10 Lx).eval (.tmp 4) = .pointer (some ⟨b3x, 0, none⟩) := by kernel_rfl
            exact i_val rfl (.agg (vcA v)) w' (by rfl) (kb_all hw 1 rfl 35 _ rfl e4 Try.underlying35 rfl (sizeV)) ⟨by kernel_rfl, hw⟩
          | 1, _ =>
            have g6 : (AsYb2 y rl t0 t1 t2 dl u v x Q op b1 b3x b3y b5 b8 b10 Lx).tmps[6]?.getD undef = .pointer (some ⟨b5, 0, none⟩) := by kernel_rfl
            have e6 : (AsYb2 y rl t0 t1 t2 dl u v x Q op b1 b3x b3y b5 b8 b10 Lx).eval (.tmp 6) = .pointer (some ⟨b5, 0, none⟩) := by kernel_rfl
            exact i_val rfl (.pointer (some ⟨b5, 12, none⟩)) w' (by rfl) (by go_simp) ⟨by kernel_rfl, hw⟩
          | 2, _ =>
            have h1 := haft 1 (by decide)
            have e76 : (AsYb2 y rl t0 t1 t2 dl u v x Q op b1 b3x b3y b5 b8 b10 Lx).eval (.tmp 76) = .pointer (some ⟨b5, 12, none⟩) := by show (bif Lx 1 then _ else _) = _; rw [h1]; rfl
            have g76 : (AsYb2 y rl t0 t1 t2 dl u v x Q op b1 b3x b3y b5 b8 b10 Lx).tmps[76]?.getD undef = .pointer (some ⟨b5, 12, none⟩) := by show (bif Lx 1 then _ else _) = _; rw [h1]; rfl
            exact i_wp rfl (by rfl) (wp_store_cell 3 _ _ rfl ⟨b5, 12, none⟩ (.int .i64 1) e76 rfl (kb_run_set hw (i := 3) rfl 3 12 (.int .i64 (bif Lx 2 then 1 else x.p12)) (.int .i64 1) (by rfl) (fun W h1 h2 => by go_simp)) ⟨by kernel_rfl, cast_blk (Kb.set (i := 3) hw rfl 12 (.int .i64 1)) (by rfl)⟩)
          | 3, _ =>
            have g6 : (AsYb2 y rl t0 t1 t2 dl u v x Q op b1 b3x b3y b5 b8 b10 Lx).tmps[6]?.getD undef = .pointer (some ⟨b5, 0, none⟩) := by kernel_rfl
            have e6 : (AsYb2 y rl t0 t1 t2 dl u v x Q op b1 b3x b3y b5 b8 b10 Lx).eval (.tmp 6) = .pointer (some ⟨b5, 0, none⟩) := by kernel_rfl
            exact i_val rfl (.pointer (some ⟨b5, 13, none⟩)) w' (by rfl) (by go_simp) ⟨by kernel_rfl, hw⟩
          | 4, _ =>
            have h0 := haft 0 (by decide)
            have e75 : (AsYb2 y rl t0 t1 t2 dl u v x Q op b1 b3x b3y b5 b8 b10 Lx).eval (.tmp 75) = .agg (vcA v) := by show (bif Lx 0 then _ else _) = _; rw [h0]; rfl
            have g75 : (AsYb2 y rl t0 t1 t2 dl u v x Q op b1 b3x b3y b5 b8 b10 Lx).tmps[75]?.getD undef = .agg (vcA v) := by show (bif Lx 0 then _ else _) = _; rw [h0]; rfl
            have h3 := haft 3 (by decide)
            have e77 : (AsYb2 y rl t0 t1 t2 dl u v x Q op b1 b3x b3y b5 b8 b10 Lx).eval (.tmp 77) = .pointer (some ⟨b5, 13, none⟩) := by show (bif Lx 3 then _ else _) = _; rw [h3]; rfl
            have g77 : (AsYb2 y rl t0 t1 t2 dl u v x Q op b1 b3x b3y b5 b8 b10 Lx).tmps[77]?.getD undef = .pointer (some ⟨b5, 13, none⟩) := by show (bif Lx 3 then _ else _) = _; rw [h3]; rfl
            exact i_wp rfl (by rfl) (wp_store_mid 35 _ _ rfl b5 13 (vcA v) e77 e75 ((Kb.at (i := 3) hw rfl).thereN 13 4 (Nat.le_of_ble_eq_true (by kernel_rfl))) (sizeV) (by kernel_rfl) ⟨by kernel_rfl, cast_blk (Kb.mid (i := 3) hw rfl 13 (vcA v).toList) (by rfl)⟩)
          | 5, _ =>
            have g6 : (AsYb2 y rl t0 t1 t2 dl u v x Q op b1 b3x b3y b5 b8 b10 Lx).tmps[6]?.getD undef = .pointer (some ⟨b5, 0, none⟩) := by kernel_rfl
            have e6 : (AsYb2 y rl t0 t1 t2 dl u v x Q op b1 b3x b3y b5 b8 b10 Lx).eval (.tmp 6) = .pointer (some ⟨b5, 0, none⟩) := by kernel_rfl
            exact i_val rfl (.pointer (some ⟨b5, 17, none⟩)) w' (by rfl) (by go_simp) ⟨by kernel_rfl, hw⟩
          | 6, _ =>
            have h5 := haft 5 (by decide)
            have e78 : (AsYb2 y rl t0 t1 t2 dl u v x Q op b1 b3x b3y b5 b8 b10 Lx).eval (.tmp 78) = .pointer (some ⟨b5, 17, none⟩) := by show (bif Lx 5 then _ else _) = _; rw [h5]; rfl
            have g78 : (AsYb2 y rl t0 t1 t2 dl u v x Q op b1 b3x b3y b5 b8 b10 Lx).tmps[78]?.getD undef = .pointer (some ⟨b5, 17, none⟩) := by show (bif Lx 5 then _ else _) = _; rw [h5]; rfl
            exact i_wp rfl (by rfl) (wp_store_cell 3 _ _ rfl ⟨b5, 17, none⟩ (.int .i64 0) e78 rfl (kb_run_set hw (i := 3) rfl 3 17 (.int .i64 (bif Lx 6 then 0 else x.p17)) (.int .i64 0) (by rfl) (fun W h1 h2 => by go_simp)) ⟨by kernel_rfl, cast_blk (Kb.set (i := 3) hw rfl 17 (.int .i64 0)) (by rfl)⟩)
          | 7, _ =>
            have g6 : (AsYb2 y rl t0 t1 t2 dl u v x Q op b1 b3x b3y b5 b8 b10 Lx).tmps[6]?.getD undef = .pointer (some ⟨b5, 0, none⟩) := by kernel_rfl
            have e6 : (AsYb2 y rl t0 t1 t2 dl u v x Q op b1 b3x b3y b5 b8 b10 Lx).eval (.tmp 6) = .pointer (some ⟨b5, 0, none⟩) := by kernel_rfl
            exact i_val rfl (.pointer (some ⟨b5, 18, none⟩)) w' (by rfl) (by go_simp) ⟨by kernel_rfl, hw⟩
          | 8, _ =>
            have h7 := haft 7 (by decide)
            have e79 : (AsYb2 y rl t0 t1 t2 dl u v x Q op b1 b3x b3y b5 b8 b10 Lx).eval (.tmp 79) = .pointer (some ⟨b5, 18, none⟩) := by show (bif Lx 7 then _ else _) = _; rw [h7]; rfl
            have g79 : (AsYb2 y rl t0 t1 t2 dl u v x Q op b1 b3x b3y b5 b8 b10 Lx).tmps[79]?.getD undef = .pointer (some ⟨b5, 18, none⟩) := by show (bif Lx 7 then _ else _) = _; rw [h7]; rfl
            exact i_wp rfl (by rfl) (wp_store_cell 3 _ _ rfl ⟨b5, 18, none⟩ (.int .i64 0) e79 rfl (kb_run_set hw (i := 3) rfl 3 18 (.int .i64 (bif Lx 8 then 0 else x.p18)) (.int .i64 0) (by rfl) (fun W h1 h2 => by go_simp)) ⟨by kernel_rfl, cast_blk (Kb.set (i := 3) hw rfl 18 (.int .i64 0)) (by rfl)⟩)
          | 9, _ =>
            have g6 : (AsYb2 y rl t0 t1 t2 dl u v x Q op b1 b3x b3y b5 b8 b10 Lx).tmps[6]?.getD undef = .pointer (some ⟨b5, 0, none⟩) := by kernel_rfl
            have e6 : (AsYb2 y rl t0 t1 t2 dl u v x Q op b1 b3x b3y b5 b8 b10 Lx).eval (.tmp 6) = .pointer (some ⟨b5, 0, none⟩) := by kernel_rfl
            exact i_val rfl (.pointer (some ⟨b5, 9, none⟩)) w' (by rfl) (by go_simp) ⟨by kernel_rfl, hw⟩
          | 10, _ =>
            have h9 := haft 9 (by decide)
            have e80 : (AsYb2 y rl t0 t1 t2 dl u v x Q op b1 b3x b3y b5 b8 b10 Lx).eval (.tmp 80) = .pointer (some ⟨b5, 9, none⟩) := by show (bif Lx 9 then _ else _) = _; rw [h9]; rfl
            have g80 : (AsYb2 y rl t0 t1 t2 dl u v x Q op b1 b3x b3y b5 b8 b10 Lx).tmps[80]?.getD undef = .pointer (some ⟨b5, 9, none⟩) := by show (bif Lx 9 then _ else _) = _; rw [h9]; rfl
            exact i_wp rfl (by rfl) (wp_store_cell 4 _ _ rfl ⟨b5, 9, none⟩ (.bool false) e80 rfl (kb_run_set hw (i := 3) rfl 4 9 (.bool (bif Lx 10 then false else x.p9)) (.bool false) (by rfl) (fun W h1 h2 => by go_simp)) ⟨by kernel_rfl, cast_blk (Kb.set (i := 3) hw rfl 9 (.bool false)) (by rfl)⟩)
          | k + 11, h =>
            exfalso
            have h2 : k + 11 < 11 := h
            omega
        intro Lx ac w13 hI hall
        obtain ⟨rfl, hw⟩ := hI
        have hfr : AsYb2 y rl t0 t1 t2 dl u v x Q op b1 b3x b3y b5 b8 b10 Lx = { tmps := #[.agg (askA y rl t0 t1 t2 dl), .pointer (some ⟨b1, 0, none⟩), .bool false, .int .i64 4, .pointer (some ⟨b3x, 0, none⟩), .pointer (some ⟨b3y, 0, none⟩), .pointer (some ⟨b5, 0, none⟩), .pointer (some ⟨b8, 0, none⟩), .bool true, .bool op, .pointer (some ⟨b10, 0, none⟩), .bool true, .bool true, .bool false, .pointer (some ⟨b1, 15, none⟩), .int .u8 (rl : Nat), .int .u8 (Int.tmod (rl : Nat) 5), .int .i64 4, .pointer (some ⟨b1, 16, none⟩), .agg (#[.int .u8 (t0 : Nat), .int .u8 (t1 : Nat), .int .u8 (t2 : Nat)]), .agg (vcA v), .pointer (some ⟨b1, 19, none⟩), .int .i64 dl, .agg (cfA ⟨0, 0, 0, dl, 0, 0⟩), .pointer (some ⟨b1, 0, none⟩), .agg (#[.bool y.f0, .bool y.f1, .bool y.f2, .bool y.f3, .bool y.f4, .int .u8 (y.n0 : Nat), .int .u8 (y.n1 : Nat), .int .u8 (y.n2 : Nat), .int .u8 (y.v0 : Nat), .int .u8 (y.v1 : Nat), .int .u8 (y.v2 : Nat), .int .i32 y.k0, .int .i32 y.k1, .int .i32 y.k2, .int .i32 y.k3]), .agg (poA ⟨x.p0, x.p1, x.p2, x.p3, x.p4, x.p5, x.p6, x.p7, x.p8, x.p9, x.p10, x.p11, x.p12, (u.r : Nat), (u.c : Nat), (u.b : Nat), (u.p : Nat), x.p17, x.p18, x.p19, x.p20⟩), .tuple #[.agg (poA Q), .bool true, .bool op], .agg (poA ⟨x.p0, x.p1, x.p2, x.p3, x.p4, x.p5, x.p6, x.p7, x.p8, x.p9, x.p10, x.p11, x.p12, (u.r : Nat), (u.c : Nat), (u.b : Nat), (u.p : Nat), x.p17, x.p18, x.p19, x.p20⟩), .int .i64 4, .agg (vcA v), .agg (cfA ⟨0, 0, 0, dl, 0, 0⟩), .tuple #[.agg (poA Q), .bool true, .bool op], .agg (poA Q), .bool true, .bool op, .agg (poA ⟨x.p0, x.p1, x.p2, x.p3, x.p4, x.p5, x.p6, x.p7, x.p8, x.p9, x.p10, x.p11, x.p12, (u.r : Nat), (u.c : Nat), (u.b : Nat), (u.p : Nat), x.p17, x.p18, x.p19, x.p20⟩), .int .i64 4, .pointer (some ⟨b5, 10, none⟩), .int .i64 4, .bool false, .bool false, .int .i64 4, .bool false, .bool false, undef, undef, undef, .int .i64 4, .bool false, .bool false, undef, undef, undef, .bool false, undef, undef, undef, .int .i64 4, .bool true, .pointer (some ⟨b10, 10, none⟩), .int .i64 x.p10, .bool true, .bool true, undef, undef, undef, .bool true, .bool true, undef, undef, undef, undef, .bool true, .bool true, .agg (vcA v), .pointer (some ⟨b5, 12, none⟩), .pointer (some ⟨b5, 13, none⟩), .pointer (some ⟨b5, 17, none⟩), .pointer (some ⟨b5, 18, none⟩), .pointer (some ⟨b5, 9, none⟩), undef, undef, undef, undef, undef, undef, undef, undef, undef, undef, undef, undef, undef, undef, undef, undef, undef, undef, undef, undef, undef, undef, undef, undef, undef, undef, undef, undef, undef, undef, undef, undef, undef, undef, undef], defers := [] } := by unfold AsYb2; simp only [hall 0 (by decide), hall 1 (by decide), hall 3 (by decide), hall 5 (by decide), hall 7 (by decide), hall 9 (by decide), cond_true]
        rw [hfr]
        clear hfr
        have hL2 := hall 2 (by decide)
        have hL4 := hall 4 (by decide)
        have hL6 := hall 6 (by decide)
        have hL8 := hall 8 (by decide)
        have hL10 := hall 10 (by decide)
        simp only [hL2, hL4, hL6, hL8, hL10, cond_true] at hw
        have K13 := Lib.hid (show Kb w [(b1, askA y rl t0 t1 t2 dl, 28), (b3x, vcA v, 35), (b3y, cfA ⟨0, 0, 0, dl, 0, 0⟩, 38), (b5, poA ⟨x.p0, x.p1, x.p2, x.p3, x.p4, x.p5, x.p6, x.p7, x.p8, false, 4, x.p11, 1, (v.r : Nat), (v.c : Nat), (v.b : Nat), (v.p : Nat), 0, 0, x.p19, x.p20⟩, 42), (b8, poA Q, 42), (b10, poA ⟨x.p0, x.p1, x.p2, x.p3, x.p4, x.p5, x.p6, x.p7, x.p8, x.p9, x.p10, x.p11, x.p12, (u.r : Nat), (u.c : Nat), (u.b : Nat), (u.p : Nat), x.p17, x.p18, x.p19, x.p20⟩, 42)] w13 from hw)
        clear hw hall hL2 hL4 hL6 hL8 hL10
        go_upto_region 17 with fail
        refine wp_region_lit ?_
        refine wpList_val (.pointer (some ⟨b10, 10, none⟩)) (by rfl) (by go_simp) ?_
        (try simp only [Act.put, List.getElem_toArray, List.getElem_cons_succ, List.getElem_cons_zero, List.setIfInBounds_toArray, List.set_cons_zero, List.set_cons_succ])
        refine wpList_val (.int .i64 x.p10) (by rfl) (by have q : w13.cell? ⟨b10, 10, none⟩ = some (.int .i64 x.p10) := K13.out.cell (i := 5) rfl (by rfl); go_simp) ?_
        (try simp only [Act.put, List.getElem_toArray, List.getElem_cons_succ, List.getElem_cons_zero, List.setIfInBounds_toArray, List.set_cons_zero, List.set_cons_succ])
        refine wpList_val (.bool true) (by rfl) (by have q := HP10.out; go_simp) ?_
        (try simp only [Act.put, List.getElem_toArray, List.getElem_cons_succ, List.getElem_cons_zero, List.setIfInBounds_toArray, List.set_cons_zero, List.set_cons_succ])
        refine wpList_nil ?_
        go_upto_region 18 with fail
        refine wp_region_inv (I := fun L ac w' => ac = AsZb2 y rl t0 t1 t2 dl u v x Q op b1 b3x b3y b5 b8 b10 L ∧ Kb w [(b1, askA y rl t0 t1 t2 dl, 28), (b3x, vcA v, 35), (b3y, cfA ⟨0, 0, 0, dl, 0, 0⟩, 38), (b5, poA ⟨x.p0, x.p1, x.p2, x.p3, x.p4, x.p5, x.p6, x.p7, x.p8, false, 4, (bif L 3 then 0 else x.p11), 1, (v.r : Nat), (v.c : Nat), (v.b : Nat), (v.p : Nat), 0, 0, (bif L 5 then dl else x.p19), x.p20⟩, 42), (b8, poA Q, 42), (b10, poA ⟨x.p0, x.p1, x.p2, x.p3, x.p4, x.p5, x.p6, x.p7, x.p8, x.p9, x.p10, x.p11, x.p12, (u.r : Nat), (u.c : Nat), (u.b : Nat), (u.p : Nat), x.p17, x.p18, x.p19, x.p20⟩, 42)] w') (by kernel_rfl) (by kernel_rfl) ⟨by kernel_rfl, K13.out.drew⟩ ?_ ?_
        · intro i hi Lx ac w' hI hL haft
          obtain ⟨rfl, hw⟩ := hI
          match i, hi with
          | 0, _ =>
            have g5 : (AsZb2 y rl t0 t1 t2 dl u v x Q op b1 b3x b3y b5 b8 b10 Lx).tmps[5]?.getD undef = .pointer (some ⟨b3y, 0, none⟩) := by kernel_rfl
            have e5 : (AsZb2 y rl t0 t1 t2 dl u v x Q op b1 b3x b3y b5 b8 b10 Lx).eval (.tmp 5) = .pointer (some ⟨b3y, 0, none⟩) := by kernel_rfl
            exact i_val rfl (.pointer (some ⟨b3y, 3, none⟩)) w' (by rfl) (by go_simp) ⟨by kernel_rfl, hw⟩
          | 1, _ =>
            have h0 := haft 0 (by decide)
            have e84 : (AsZb2 y rl t0 t1 t2 dl u v x Q op b1 b3x b3y b5 b8 b10 Lx).eval (.tmp 84) = .pointer (some ⟨b3y, 3, none⟩) := by show (bif Lx 0 then _ else _) = _; rw [h0]; rfl
            have g84 : (AsZb2 y rl t0 t1 t2 dl u v x Q op b1 b3x b3y b5 b8 b10 Lx).tmps[84]?.getD undef = .pointer (some ⟨b3y, 3, none⟩) := by show (bif Lx 0 then _ else _) = _; rw [h0]; rfl
            exact i_val rfl (.int .i64 dl) w' (by rfl) (by have q : w'.cell? ⟨b3y, 3, none⟩ = some (.int .i64 dl) := Kb.cell (i := 2) hw rfl (by rfl); go_simp) ⟨by kernel_rfl, hw⟩
          | 2, _ =>
            have g6 : (AsZb2 y rl t0 t1 t2 dl u v x Q op b1 b3x b3y b5 b8 b10 Lx).tmps[6]?.getD undef = .pointer (some ⟨b5, 0, none⟩) := by kernel_rfl
            have e6 : (AsZb2 y rl t0 t1 t2 dl u v x Q op b1 b3x b3y b5 b8 b10 Lx).eval (.tmp 6) = .pointer (some ⟨b5, 0, none⟩) := by kernel_rfl
            exact i_val rfl (.pointer (some ⟨b5, 11, none⟩)) w' (by rfl) (by go_simp) ⟨by kernel_rfl, hw⟩
          | 3, _ =>
            have h2 := haft 2 (by decide)
            have e86 : (AsZb2 y rl t0 t1 t2 dl u v x Q op b1 b3x b3y b5 b8 b10 Lx).eval (.tmp 86) = .pointer (some ⟨b5, 11, none⟩) := by show (bif Lx 2 then _ else _) = _; rw [h2]; rfl
            have g86 : (AsZb2 y rl t0 t1 t2 dl u v x Q op b1 b3x b3y b5 b8 b10 Lx).tmps[86]?.getD undef = .pointer (some ⟨b5, 11, none⟩) := by show (bif Lx 2 then _ else _) = _; rw [h2]; rfl
            exact i_wp rfl (by rfl) (wp_store_cell 3 _ _ rfl ⟨b5, 11, none⟩ (.int .i64 0) e86 rfl (kb_run_set hw (i := 3) rfl 3 11 (.int .i64 (bif Lx 3 then 0 else x.p11)) (.int .i64 0) (by rfl) (fun W h1 h2 => by go_simp)) ⟨by kernel_rfl, cast_blk (Kb.set (i := 3) hw rfl 11 (.int .i64 0)) (by rfl)⟩)
          | 4, _ =>
            have g6 : (AsZb2 y rl t0 t1 t2 dl u v x Q op b1 b3x b3y b5 b8 b10 Lx).tmps[6]?.getD undef = .pointer (some ⟨b5, 0, none⟩) := by kernel_rfl
            have e6 : (AsZb2 y rl t0 t1 t2 dl u v x Q op b1 b3x b3y b5 b8 b10 Lx).eval (.tmp 6) = .pointer (some ⟨b5, 0, none⟩) := by kernel_rfl
            exact i_val rfl (.pointer (some ⟨b5, 19, none⟩)) w' (by rfl) (by go_simp) ⟨by kernel_rfl, hw⟩
          | 5, _ =>
            have h1 := haft 1 (by decide)
            have e85 : (AsZb2 y rl t0 t1 t2 dl u v x Q op b1 b3x b3y b5 b8 b10 Lx).eval (.tmp 85) = .int .i64 dl := by show (bif Lx 1 then _ else _) = _; rw [h1]; rfl
            have g85 : (AsZb2 y rl t0 t1 t2 dl u v x Q op b1 b3x b3y b5 b8 b10 Lx).tmps[85]?.getD undef = .int .i64 dl := by show (bif Lx 1 then _ else _) = _; rw [h1]; rfl
            have h4 := haft 4 (by decide)
            have e87 : (AsZb2 y rl t0 t1 t2 dl u v x Q op b1 b3x b3y b5 b8 b10 Lx).eval (.tmp 87) = .pointer (some ⟨b5, 19, none⟩) := by show (bif Lx 4 then _ else _) = _; rw [h4]; rfl
            have g87 : (AsZb2 y rl t0 t1 t2 dl u v x Q op b1 b3x b3y b5 b8 b10 Lx).tmps[87]?.getD undef = .pointer (some ⟨b5, 19, none⟩) := by show (bif Lx 4 then _ else _) = _; rw [h4]; rfl
            exact i_wp rfl (by rfl) (wp_store_cell 3 _ _ rfl ⟨b5, 19, none⟩ (.int .i64 dl) e87 e85 (kb_run_set hw (i := 3) rfl 3 19 (.int .i64 (bif Lx 5 then dl else x.p19)) (.int .i64 dl) (by rfl) (fun W h1 h2 => by go_simp)) ⟨by kernel_rfl, cast_blk (Kb.set (i := 3) hw rfl 19 (.int .i64 dl)) (by rfl)⟩)
          | k + 6, h =>
            exfalso
            have h2 : k + 6 < 6 := h
            omega
        intro Lx ac w14 hI hall
        obtain ⟨rfl, hw⟩ := hI
        have hfr : AsZb2 y rl t0 t1 t2 dl u v x Q op b1 b3x b3y b5 b8 b10 Lx = { tmps := #[.agg (askA y rl t0 t1 t2 dl), .pointer (some ⟨b1, 0, none⟩), .bool false, .int .i64 4, .pointer (some ⟨b3x, 0, none⟩), .pointer (some ⟨b3y, 0, none⟩), .pointer (some ⟨b5, 0, none⟩), .pointer (some ⟨b8, 0, none⟩), .bool true, .bool op, .pointer (some ⟨b10, 0, none⟩), .bool true, .bool true, .bool false, .pointer (some ⟨b1, 15, none⟩), .int .u8 (rl : Nat), .int .u8 (Int.tmod (rl : Nat) 5), .int .i64 4, .pointer (some ⟨b1, 16, none⟩), .agg (#[.int .u8 (t0 : Nat), .int .u8 (t1 : Nat), .int .u8 (t2 : Nat)]), .agg (vcA v), .pointer (some ⟨b1, 19, none⟩), .int .i64 dl, .agg (cfA ⟨0, 0, 0, dl, 0, 0⟩), .pointer (some ⟨b1, 0, none⟩), .agg (#[.bool y.f0, .bool y.f1, .bool y.f2, .bool y.f3, .bool y.f4, .int .u8 (y.n0 : Nat), .int .u8 (y.n1 : Nat), .int .u8 (y.n2 : Nat), .int .u8 (y.v0 : Nat), .int .u8 (y.v1 : Nat), .int .u8 (y.v2 : Nat), .int .i32 y.k0, .int .i32 y.k1, .int .i32 y.k2, .int .i32 y.k3]), .agg (poA ⟨x.p0, x.p1, x.p2, x.p3, x.p4, x.p5, x.p6, x.p7, x.p8, x.p9, x.p10, x.p11, x.p12, (u.r : Nat), (u.c : Nat), (u.b : Nat), (u.p : Nat), x.p17, x.p18, x.p19, x.p20⟩), .tuple #[.agg (poA Q), .bool true, .bool op], .agg (poA ⟨x.p0, x.p1, x.p2, x.p3, x.p4, x.p5, x.p6, x.p7, x.p8, x.p9, x.p10, x.p11, x.p12, (u.r : Nat), (u.c : Nat), (u.b : Nat), (u.p : Nat), x.p17, x.p18, x.p19, x.p20⟩), .int .i64 4, .agg (vcA v), .agg (cfA ⟨0, 0, 0, dl, 0, 0⟩), .tuple #[.agg (poA Q), .bool true, .bool op], .agg (poA Q), .bool true, .bool op, .agg (poA ⟨x.p0, x.p1, x.p2, x.p3, x.p4, x.p5, x.p6, x.p7, x.p8, x.p9, x.p10, x.p11, x.p12, (u.r : Nat), (u.c : Nat), (u.b : Nat), (u.p : Nat), x.p17, x.p18, x.p19, x.p20⟩), .int .i64 4, .pointer (some ⟨b5, 10, none⟩), .int .i64 4, .bool false, .bool false, .int .i64 4, .bool false, .bool false, undef, undef, undef, .int .i64 4, .bool false, .bool false, undef, undef, undef, .bool false, undef, undef, undef, .int .i64 4, .bool true, .pointer (some ⟨b10, 10, none⟩), .int .i64 x.p10, .bool true, .bool true, undef, undef, undef, .bool true, .bool true, undef, undef, undef, undef, .bool true, .bool true, .agg (vcA v), .pointer (some ⟨b5, 12, none⟩), .pointer (some ⟨b5, 13, none⟩), .pointer (some ⟨b5, 17, none⟩), .pointer (some ⟨b5, 18, none⟩), .pointer (some ⟨b5, 9, none⟩), .pointer (some ⟨b10, 10, none⟩), .int .i64 x.p10, .bool true, .pointer (some ⟨b3y, 3, none⟩), .int .i64 dl, .pointer (some ⟨b5, 11, none⟩), .pointer (some ⟨b5, 19, none⟩), undef, undef, undef, undef, undef, undef, undef, undef, undef, undef, undef, undef, undef, undef, undef, undef, undef, undef, undef, undef, undef, undef, undef, undef, undef, undef, undef, undef], defers := [] } := by unfold AsZb2; simp only [hall 0 (by decide), hall 1 (by decide), hall 2 (by decide), hall 4 (by decide), cond_true]
        rw [hfr]
        clear hfr
        have hL3 := hall 3 (by decide)
        have hL5 := hall 5 (by decide)
        simp only [hL3, hL5, cond_true] at hw
        have K14 := Lib.hid (show Kb w [(b1, askA y rl t0 t1 t2 dl, 28), (b3x, vcA v, 35), (b3y, cfA ⟨0, 0, 0, dl, 0, 0⟩, 38), (b5, poA ⟨x.p0, x.p1, x.p2, x.p3, x.p4, x.p5, x.p6, x.p7, x.p8, false, 4, 0, 1, (v.r : Nat), (v.c : Nat), (v.b : Nat), (v.p : Nat), 0, 0, dl, x.p20⟩, 42), (b8, poA Q, 42), (b10, poA ⟨x.p0, x.p1, x.p2, x.p3, x.p4, x.p5, x.p6, x.p7, x.p8, x.p9, x.p10, x.p11, x.p12, (u.r : Nat), (u.c : Nat), (u.b : Nat), (u.p : Nat), x.p17, x.p18, x.p19, x.p20⟩, 42)] w14 from hw)
        clear hw hall hL3 hL5
        go_upto_region 19 with fail
        refine wp_region_lit ?_
        refine wpList_val (.pointer (some ⟨b10, 5, none⟩)) (by rfl) (by go_simp) ?_
        (try simp only [Act.put, List.getElem_toArray, List.getElem_cons_succ, List.getElem_cons_zero, List.setIfInBounds_toArray, List.set_cons_zero, List.set_cons_succ])
        refine wpList_val (.bool true) (by rfl) (by have q : w14.cell? ⟨b10, 5, none⟩ = some (.bool x.p5) := K14.out.cell (i := 5) rfl (by rfl); rw [H5.out] at q; go_simp) ?_
        (try simp only [Act.put, List.getElem_toArray, List.getElem_cons_succ, List.getElem_cons_zero, List.setIfInBounds_toArray, List.set_cons_zero, List.set_cons_succ])
        refine wpList_val (.bool true) (by rfl) (by go_simp) ?_
        (try simp only [Act.put, List.getElem_toArray, List.getElem_cons_succ, List.getElem_cons_zero, List.setIfInBounds_toArray, List.set_cons_zero, List.set_cons_succ])
        refine wpList_val (.pointer (some ⟨b10, 8, none⟩)) (by rfl) (by go_simp) ?_
        (try simp only [Act.put, List.getElem_toArray, List.getElem_cons_succ, List.getElem_cons_zero, List.setIfInBounds_toArray, List.set_cons_zero, List.set_cons_succ])
        refine wpList_val (.bool false) (by rfl) (by have q : w14.cell? ⟨b10, 8, none⟩ = some (.bool x.p8) := K14.out.cell (i := 5) rfl (by rfl); rw [H8.out] at q; go_simp) ?_
        (try simp only [Act.put, List.getElem_toArray, List.getElem_cons_succ, List.getElem_cons_zero, List.setIfInBounds_toArray, List.set_cons_zero, List.set_cons_succ])
        refine wpList_val (.bool false) (by rfl) (run_pick_yes (.tmp 90) (.tmp 92) (.const (.bool false)) _ rfl rfl rfl) ?_
        (try simp only [Act.put, List.getElem_toArray, List.getElem_cons_succ, List.getElem_cons_zero, List.setIfInBounds_toArray, List.set_cons_zero, List.set_cons_succ])
        refine wpList_nil ?_
        go_upto_region 21 with fail
        have hop : op = (decide (0 = (2 : Int)) && !decide (x.p11 = 2)) := by rw [HO.out, HQQ.out]; rfl
        have HOP := Lib.hid (show op = false from by rw [hop]; simp)
        clear hop
        refine wp_region_lit ?_
        refine wpList_val (.agg (poA Q)) (by rfl) (kb_all K14.out 4 rfl 42 _ rfl rfl Try.underlying42 rfl (size50)) ?_
        (try simp only [Act.put, List.getElem_toArray, List.getElem_cons_succ, List.getElem_cons_zero, List.setIfInBounds_toArray, List.set_cons_zero, List.set_cons_succ])
        refine wpList_val (.agg (poA ⟨x.p0, x.p1, x.p2, x.p3, x.p4, x.p5, x.p6, x.p7, x.p8, false, 4, 0, 1, (v.r : Nat), (v.c : Nat), (v.b : Nat), (v.p : Nat), 0, 0, dl, x.p20⟩)) (by rfl) (kb_all K14.out 3 rfl 42 _ rfl rfl Try.underlying42 rfl (size50)) ?_
        (try simp only [Act.put, List.getElem_toArray, List.getElem_cons_succ, List.getElem_cons_zero, List.setIfInBounds_toArray, List.set_cons_zero, List.set_cons_succ])
        refine wpList_val (.bool true) (by rfl) (by have q := eq_po2 (show Q = ⟨x.p0, x.p1, x.p2, x.p3, x.p4, x.p5, x.p6, x.p7, x.p8, false, 4, 0, 1, (v.r : Nat), (v.c : Nat), (v.b : Nat), (v.p : Nat), 0, 0, dl, x.p20⟩ from HQQ.out); go_simp) ?_
        (try simp only [Act.put, List.getElem_toArray, List.getElem_cons_succ, List.getElem_cons_zero, List.setIfInBounds_toArray, List.set_cons_zero, List.set_cons_succ])
        refine wpList_val (.bool true) (by rfl) (by go_simp) ?_
        (try simp only [Act.put, List.getElem_toArray, List.getElem_cons_succ, List.getElem_cons_zero, List.setIfInBounds_toArray, List.set_cons_zero, List.set_cons_succ])
        refine wpList_val (.bool true) (by rfl) (by go_simp) ?_
        (try simp only [Act.put, List.getElem_toArray, List.getElem_cons_succ, List.getElem_cons_zero, List.setIfInBounds_toArray, List.set_cons_zero, List.set_cons_succ])
        refine wpList_val (.bool true) (by rfl) (by go_simp) ?_
        (try simp only [Act.put, List.getElem_toArray, List.getElem_cons_succ, List.getElem_cons_zero, List.setIfInBounds_toArray, List.set_cons_zero, List.set_cons_succ])
        refine wpList_val (.bool true) (by rfl) (by go_simp) ?_
        (try simp only [Act.put, List.getElem_toArray, List.getElem_cons_succ, List.getElem_cons_zero, List.setIfInBounds_toArray, List.set_cons_zero, List.set_cons_succ])
        refine wpList_val (.bool true) (by rfl) (run_pick_yes (.tmp 99) (.tmp 102) (.const (.bool false)) _ rfl rfl rfl) ?_
        (try simp only [Act.put, List.getElem_toArray, List.getElem_cons_succ, List.getElem_cons_zero, List.setIfInBounds_toArray, List.set_cons_zero, List.set_cons_succ])
        refine wpList_val (.bool true) (by rfl) (by go_simp) ?_
        (try simp only [Act.put, List.getElem_toArray, List.getElem_cons_succ, List.getElem_cons_zero, List.setIfInBounds_toArray, List.set_cons_zero, List.set_cons_succ])
        refine wpList_val (.bool op) (by rfl) (by go_simp) ?_
        (try simp only [Act.put, List.getElem_toArray, List.getElem_cons_succ, List.getElem_cons_zero, List.setIfInBounds_toArray, List.set_cons_zero, List.set_cons_succ])
        refine wpList_val (.pointer (some ⟨b5, 11, none⟩)) (by rfl) (by go_simp) ?_
        (try simp only [Act.put, List.getElem_toArray, List.getElem_cons_succ, List.getElem_cons_zero, List.setIfInBounds_toArray, List.set_cons_zero, List.set_cons_succ])
        refine wpList_val (.int .i64 0) (by rfl) (by have q : w14.cell? ⟨b5, 11, none⟩ = some (.int .i64 0) := K14.out.cell (i := 3) rfl (by rfl); go_simp) ?_
        (try simp only [Act.put, List.getElem_toArray, List.getElem_cons_succ, List.getElem_cons_zero, List.setIfInBounds_toArray, List.set_cons_zero, List.set_cons_succ])
        refine wpList_val (.bool false) (by rfl) (by go_simp) ?_
        (try simp only [Act.put, List.getElem_toArray, List.getElem_cons_succ, List.getElem_cons_zero, List.setIfInBounds_toArray, List.set_cons_zero, List.set_cons_succ])
        refine wpList_val (.bool false) (by rfl) (by go_simp) ?_
        (try simp only [Act.put, List.getElem_toArray, List.getElem_cons_succ, List.getElem_cons_zero, List.setIfInBounds_toArray, List.set_cons_zero, List.set_cons_succ])
        refine wpList_skip (by kernel_rfl) ?_
        (try simp only [Act.put, List.getElem_toArray, List.getElem_cons_succ, List.getElem_cons_zero, List.setIfInBounds_toArray, List.set_cons_zero, List.set_cons_succ])
        refine wpList_skip (by kernel_rfl) ?_
        (try simp only [Act.put, List.getElem_toArray, List.getElem_cons_succ, List.getElem_cons_zero, List.setIfInBounds_toArray, List.set_cons_zero, List.set_cons_succ])
        refine wpList_skip (by kernel_rfl) ?_
        (try simp only [Act.put, List.getElem_toArray, List.getElem_cons_succ, List.getElem_cons_zero, List.setIfInBounds_toArray, List.set_cons_zero, List.set_cons_succ])
        refine wpList_val (.bool false) (by rfl) (run_pick_no (.tmp 109) (.tmp 112) (.const (.bool false)) _ rfl rfl rfl) ?_
        (try simp only [Act.put, List.getElem_toArray, List.getElem_cons_succ, List.getElem_cons_zero, List.setIfInBounds_toArray, List.set_cons_zero, List.set_cons_succ])
        refine wpList_val (.bool true) (by rfl) (by have q := HOP.out; go_simp) ?_
        (try simp only [Act.put, List.getElem_toArray, List.getElem_cons_succ, List.getElem_cons_zero, List.setIfInBounds_toArray, List.set_cons_zero, List.set_cons_succ])
        refine wpList_val (.bool true) (by rfl) (run_pick_yes (.tmp 104) (.tmp 114) (.const (.bool false)) _ rfl rfl rfl) ?_
        (try simp only [Act.put, List.getElem_toArray, List.getElem_cons_succ, List.getElem_cons_zero, List.setIfInBounds_toArray, List.set_cons_zero, List.set_cons_succ])
        refine wpList_val (.bool true) (by rfl) (by go_simp) ?_
        (try simp only [Act.put, List.getElem_toArray, List.getElem_cons_succ, List.getElem_cons_zero, List.setIfInBounds_toArray, List.set_cons_zero, List.set_cons_succ])
        refine wpList_nil ?_
        go_wp2_with fail
        go_ret
        exact ⟨ret_bool (rfl), K14.out.below⟩
      case inr =>
        have H8 := Lib.hid h8
        clear h8
        have hB : desB x u v = true := by simp [desB, HP10.out]
        have HB := Lib.hid hB
        clear hB
        have hed : edgeB x = true := by simp [edgeB, H5.out, H8.out]
        have HED := Lib.hid hed
        clear hed
        have ha : an = true := by rw [HAN.out]; simp [assumeN, HB.out]
        subst ha
        have hq : Q = ⟨x.p0, x.p1, x.p2, x.p3, x.p4, x.p5, x.p6, x.p7, x.p8, false, 4, 2, 1, (v.r : Nat), (v.c : Nat), (v.b : Nat), (v.p : Nat), 0, 0, 0, x.p20⟩ := by rw [HQ.out]; unfold assumeP; rw [if_neg (by decide), if_neg (by decide), if_pos rfl]; simp [desP, desV, HB.out, HED.out, HP10.out]
        have HQQ := Lib.hid hq
        clear hq
        refine wp_region_lit ?_
        refine wpList_val (.int .i64 4) (by rfl) (by go_simp) ?_
        (try simp only [Act.put, List.getElem_toArray, List.getElem_cons_succ, List.getElem_cons_zero, List.setIfInBounds_toArray, List.set_cons_zero, List.set_cons_succ])
        refine wpList_val (.bool false) (by rfl) (by go_simp) ?_
        (try simp only [Act.put, List.getElem_toArray, List.getElem_cons_succ, List.getElem_cons_zero, List.setIfInBounds_toArray, List.set_cons_zero, List.set_cons_succ])
        refine wpList_val (.bool false) (by rfl) (by go_simp) ?_
        (try simp only [Act.put, List.getElem_toArray, List.getElem_cons_succ, List.getElem_cons_zero, List.setIfInBounds_toArray, List.set_cons_zero, List.set_cons_succ])
        refine wpList_val (.int .i64 4) (by rfl) (by go_simp) ?_
        (try simp only [Act.put, List.getElem_toArray, List.getElem_cons_succ, List.getElem_cons_zero, List.setIfInBounds_toArray, List.set_cons_zero, List.set_cons_succ])
        refine wpList_val (.bool false) (by rfl) (by go_simp) ?_
        (try simp only [Act.put, List.getElem_toArray, List.getElem_cons_succ, List.getElem_cons_zero, List.setIfInBounds_toArray, List.set_cons_zero, List.set_cons_succ])
        refine wpList_val (.bool false) (by rfl) (run_pick_no (.tmp 41) (.const (.bool true)) (.tmp 43) _ rfl rfl rfl) ?_
        (try simp only [Act.put, List.getElem_toArray, List.getElem_cons_succ, List.getElem_cons_zero, List.setIfInBounds_toArray, List.set_cons_zero, List.set_cons_succ])
        refine wpList_nil ?_
        go_upto_region 11 with fail
        refine wp_region_lit ?_
        refine wpList_val (.int .i64 4) (by rfl) (by go_simp) ?_
        (try simp only [Act.put, List.getElem_toArray, List.getElem_cons_succ, List.getElem_cons_zero, List.setIfInBounds_toArray, List.set_cons_zero, List.set_cons_succ])
        refine wpList_val (.bool false) (by rfl) (by go_simp) ?_
        (try simp only [Act.put, List.getElem_toArray, List.getElem_cons_succ, List.getElem_cons_zero, List.setIfInBounds_toArray, List.set_cons_zero, List.set_cons_succ])
        refine wpList_val (.bool false) (by rfl) (by go_simp) ?_
        (try simp only [Act.put, List.getElem_toArray, List.getElem_cons_succ, List.getElem_cons_zero, List.setIfInBounds_toArray, List.set_cons_zero, List.set_cons_succ])
        refine wpList_skip (by kernel_rfl) ?_
        (try simp only [Act.put, List.getElem_toArray, List.getElem_cons_succ, List.getElem_cons_zero, List.setIfInBounds_toArray, List.set_cons_zero, List.set_cons_succ])
        refine wpList_skip (by kernel_rfl) ?_
        (try simp only [Act.put, List.getElem_toArray, List.getElem_cons_succ, List.getElem_cons_zero, List.setIfInBounds_toArray, List.set_cons_zero, List.set_cons_succ])
        refine wpList_skip (by kernel_rfl) ?_
        (try simp only [Act.put, List.getElem_toArray, List.getElem_cons_succ, List.getElem_cons_zero, List.setIfInBounds_toArray, List.set_cons_zero, List.set_cons_succ])
        refine wpList_val (.bool false) (by rfl) (run_pick_no (.tmp 50) (.tmp 53) (.const (.bool false)) _ rfl rfl rfl) ?_
        (try simp only [Act.put, List.getElem_toArray, List.getElem_cons_succ, List.getElem_cons_zero, List.setIfInBounds_toArray, List.set_cons_zero, List.set_cons_succ])
        refine wpList_nil ?_
        go_upto_region 13 with fail
        refine wp_region_lit ?_
        refine wpList_val (.int .i64 4) (by rfl) (by go_simp) ?_
        (try simp only [Act.put, List.getElem_toArray, List.getElem_cons_succ, List.getElem_cons_zero, List.setIfInBounds_toArray, List.set_cons_zero, List.set_cons_succ])
        refine wpList_val (.bool true) (by rfl) (by go_simp) ?_
        (try simp only [Act.put, List.getElem_toArray, List.getElem_cons_succ, List.getElem_cons_zero, List.setIfInBounds_toArray, List.set_cons_zero, List.set_cons_succ])
        refine wpList_nil ?_
        go_upto_region 14 with fail
        refine wp_region_lit ?_
        refine wpList_val (.pointer (some ⟨b10, 10, none⟩)) (by rfl) (by go_simp) ?_
        (try simp only [Act.put, List.getElem_toArray, List.getElem_cons_succ, List.getElem_cons_zero, List.setIfInBounds_toArray, List.set_cons_zero, List.set_cons_succ])
        refine wpList_val (.int .i64 x.p10) (by rfl) (by have q : w12.cell? ⟨b10, 10, none⟩ = some (.int .i64 x.p10) := K12.out.cell (i := 5) rfl (by rfl); go_simp) ?_
        (try simp only [Act.put, List.getElem_toArray, List.getElem_cons_succ, List.getElem_cons_zero, List.setIfInBounds_toArray, List.set_cons_zero, List.set_cons_succ])
        refine wpList_val (.bool true) (by rfl) (by have q := HP10.out; go_simp) ?_
        (try simp only [Act.put, List.getElem_toArray, List.getElem_cons_succ, List.getElem_cons_zero, List.setIfInBounds_toArray, List.set_cons_zero, List.set_cons_succ])
        refine wpList_val (.bool true) (by rfl) (by go_simp) ?_
        (try simp only [Act.put, List.getElem_toArray, List.getElem_cons_succ, List.getElem_cons_zero, List.setIfInBounds_toArray, List.set_cons_zero, List.set_cons_succ])
        refine wpList_skip (by kernel_rfl) ?_
        (try simp only [Act.put, List.getElem_toArray, List.getElem_cons_succ, List.getElem_cons_zero, List.setIfInBounds_toArray, List.set_cons_zero, List.set_cons_succ])
        refine wpList_skip (by kernel_rfl) ?_
        (try simp only [Act.put, List.getElem_toArray, List.getElem_cons_succ, List.getElem_cons_zero, List.setIfInBounds_toArray, List.set_cons_zero, List.set_cons_succ])
        refine wpList_skip (by kernel_rfl) ?_
        (try simp only [Act.put, List.getElem_toArray, List.getElem_cons_succ, List.getElem_cons_zero, List.setIfInBounds_toArray, List.set_cons_zero, List.set_cons_succ])
        refine wpList_val (.bool true) (by rfl) (run_pick_yes (.tmp 63) (.const (.bool true)) (.tmp 66) _ rfl rfl rfl) ?_
        (try simp only [Act.put, List.getElem_toArray, List.getElem_cons_succ, List.getElem_cons_zero, List.setIfInBounds_toArray, List.set_cons_zero, List.set_cons_succ])
        refine wpList_val (.bool true) (by rfl) (by go_simp) ?_
        (try simp only [Act.put, List.getElem_toArray, List.getElem_cons_succ, List.getElem_cons_zero, List.setIfInBounds_toArray, List.set_cons_zero, List.set_cons_succ])
        refine wpList_skip (by kernel_rfl) ?_
        (try simp only [Act.put, List.getElem_toArray, List.getElem_cons_succ, List.getElem_cons_zero, List.setIfInBounds_toArray, List.set_cons_zero, List.set_cons_succ])
        refine wpList_skip (by kernel_rfl) ?_
        (try simp only [Act.put, List.getElem_toArray, List.getElem_cons_succ, List.getElem_cons_zero, List.setIfInBounds_toArray, List.set_cons_zero, List.set_cons_succ])
        refine wpList_skip (by kernel_rfl) ?_
        (try simp only [Act.put, List.getElem_toArray, List.getElem_cons_succ, List.getElem_cons_zero, List.setIfInBounds_toArray, List.set_cons_zero, List.set_cons_succ])
        refine wpList_skip (by kernel_rfl) ?_
        (try simp only [Act.put, List.getElem_toArray, List.getElem_cons_succ, List.getElem_cons_zero, List.setIfInBounds_toArray, List.set_cons_zero, List.set_cons_succ])
        refine wpList_val (.bool true) (by rfl) (run_pick_yes (.tmp 68) (.const (.bool true)) (.tmp 72) _ rfl rfl rfl) ?_
        (try simp only [Act.put, List.getElem_toArray, List.getElem_cons_succ, List.getElem_cons_zero, List.setIfInBounds_toArray, List.set_cons_zero, List.set_cons_succ])
        refine wpList_val (.bool true) (by rfl) (by go_simp) ?_
        (try simp only [Act.put, List.getElem_toArray, List.getElem_cons_succ, List.getElem_cons_zero, List.setIfInBounds_toArray, List.set_cons_zero, List.set_cons_succ])
        refine wpList_nil ?_
        go_upto_region 15 with fail
        refine wp_region_lit ?_
        refine wpList_val (.bool true) (by rfl) (by go_simp) ?_
        (try simp only [Act.put, List.getElem_toArray, List.getElem_cons_succ, List.getElem_cons_zero, List.setIfInBounds_toArray, List.set_cons_zero, List.set_cons_succ])
        refine wpList_nil ?_
        go_upto_region 16 with fail
        refine wp_region_inv (I := fun L ac w' => ac = AsYb3 y rl t0 t1 t2 dl u v x Q op b1 b3x b3y b5 b8 b10 L ∧ Kb w [(b1, askA y rl t0 t1 t2 dl, 28), (b3x, vcA v, 35), (b3y, cfA ⟨0, 0, 0, dl, 0, 0⟩, 38), (b5, poA ⟨x.p0, x.p1, x.p2, x.p3, x.p4, x.p5, x.p6, x.p7, x.p8, (bif L 10 then false else x.p9), 4, x.p11, (bif L 2 then 1 else x.p12), (bif L 4 then (v.r : Nat) else (u.r : Nat)), (bif L 4 then (v.c : Nat) else (u.c : Nat)), (bif L 4 then (v.b : Nat) else (u.b : Nat)), (bif L 4 then (v.p : Nat) else (u.p : Nat)), (bif L 6 then 0 else x.p17), (bif L 8 then 0 else x.p18), x.p19, x.p20⟩, 42), (b8, poA Q, 42), (b10, poA ⟨x.p0, x.p1, x.p2, x.p3, x.p4, x.p5, x.p6, x.p7, x.p8, x.p9, x.p10, x.p11, x.p12, (u.r : Nat), (u.c : Nat), (u.b : Nat), (u.p : Nat), x.p17, x.p18, x.p19, x.p20⟩, 42)] w') (by kernel_rfl) (by kernel_rfl) ⟨by kernel_rfl, K12.out.drew⟩ ?_ ?_
        · intro i hi Lx ac w' hI hL haft
          obtain ⟨rfl, hw⟩ := hI
          match i, hi with
          | 0, _ =>
            have g4 : (AsYb3 y rl t0 t1 t2 dl u v x Q op b1 b3x b3y b5 b8 b10 Lx).tmps[4]?.getD undef = .pointer (some ⟨b3x, 0, none⟩) := by kernel_rfl
            have e4 : (AsYb3 y rl t0 t1 t2 dl u v x Q op b1 b3x b3y b5 b8 b10 Lx).eval (.tmp 4) = .pointer (some ⟨b3x, 0, none⟩) := by kernel_rfl
            exact i_val rfl (.agg (vcA v)) w' (by rfl) (kb_all hw 1 rfl 35 _ rfl e4 Try.underlying35 rfl (sizeV)) ⟨by kernel_rfl, hw⟩
          | 1, _ =>
            have g6 : (AsYb3 y rl t0 t1 t2 dl u v x Q op b1 b3x b3y b5 b8 b10 Lx).tmps[6]?.getD undef = .pointer (some ⟨b5, 0, none⟩) := by kernel_rfl
            have e6 : (AsYb3 y rl t0 t1 t2 dl u v x Q op b1 b3x b3y b5 b8 b10 Lx).eval (.tmp 6) = .pointer (some ⟨b5, 0, none⟩) := by kernel_rfl
            exact i_val rfl (.pointer (some ⟨b5, 12, none⟩)) w' (by rfl) (by go_simp) ⟨by kernel_rfl, hw⟩
          | 2, _ =>
            have h1 := haft 1 (by decide)
            have e76 : (AsYb3 y rl t0 t1 t2 dl u v x Q op b1 b3x b3y b5 b8 b10 Lx).eval (.tmp 76) = .pointer (some ⟨b5, 12, none⟩) := by show (bif Lx 1 then _ else _) = _; rw [h1]; rfl
            have g76 : (AsYb3 y rl t0 t1 t2 dl u v x Q op b1 b3x b3y b5 b8 b10 Lx).tmps[76]?.getD undef = .pointer (some ⟨b5, 12, none⟩) := by show (bif Lx 1 then _ else _) = _; rw [h1]; rfl
            exact i_wp rfl (by rfl) (wp_store_cell 3 _ _ rfl ⟨b5, 12, none⟩ (.int .i64 1) e76 rfl (kb_run_set hw (i := 3) rfl 3 12 (.int .i64 (bif Lx 2 then 1 else x.p12)) (.int .i64 1) (by rfl) (fun W h1 h2 => by go_simp)) ⟨by kernel_rfl, cast_blk (Kb.set (i := 3) hw rfl 12 (.int .i64 1)) (by rfl)⟩)
          | 3, _ =>
            have g6 : (AsYb3 y rl t0 t1 t2 dl u v x Q op b1 b3x b3y b5 b8 b10 Lx).tmps[6]?.getD undef = .pointer (some ⟨b5, 0, none⟩) := by kernel_rfl
            have e6 : (AsYb3 y rl t0 t1 t2 dl u v x Q op b1 b3x b3y b5 b8 b10 Lx).eval (.tmp 6) = .pointer (some ⟨b5, 0, none⟩) := by kernel_rfl
            exact i_val rfl (.pointer (some ⟨b5, 13, none⟩)) w' (by rfl) (by go_simp) ⟨by kernel_rfl, hw⟩
          | 4, _ =>
            have h0 := haft 0 (by decide)
            have e75 : (AsYb3 y rl t0 t1 t2 dl u v x Q op b1 b3x b3y b5 b8 b10 Lx).eval (.tmp 75) = .agg (vcA v) := by show (bif Lx 0 then _ else _) = _; rw [h0]; rfl
            have g75 : (AsYb3 y rl t0 t1 t2 dl u v x Q op b1 b3x b3y b5 b8 b10 Lx).tmps[75]?.getD undef = .agg (vcA v) := by show (bif Lx 0 then _ else _) = _; rw [h0]; rfl
            have h3 := haft 3 (by decide)
            have e77 : (AsYb3 y rl t0 t1 t2 dl u v x Q op b1 b3x b3y b5 b8 b10 Lx).eval (.tmp 77) = .pointer (some ⟨b5, 13, none⟩) := by show (bif Lx 3 then _ else _) = _; rw [h3]; rfl
            have g77 : (AsYb3 y rl t0 t1 t2 dl u v x Q op b1 b3x b3y b5 b8 b10 Lx).tmps[77]?.getD undef = .pointer (some ⟨b5, 13, none⟩) := by show (bif Lx 3 then _ else _) = _; rw [h3]; rfl
            exact i_wp rfl (by rfl) (wp_store_mid 35 _ _ rfl b5 13 (vcA v) e77 e75 ((Kb.at (i := 3) hw rfl).thereN 13 4 (Nat.le_of_ble_eq_true (by kernel_rfl))) (sizeV) (by kernel_rfl) ⟨by kernel_rfl, cast_blk (Kb.mid (i := 3) hw rfl 13 (vcA v).toList) (by rfl)⟩)
          | 5, _ =>
            have g6 : (AsYb3 y rl t0 t1 t2 dl u v x Q op b1 b3x b3y b5 b8 b10 Lx).tmps[6]?.getD undef = .pointer (some ⟨b5, 0, none⟩) := by kernel_rfl
            have e6 : (AsYb3 y rl t0 t1 t2 dl u v x Q op b1 b3x b3y b5 b8 b10 Lx).eval (.tmp 6) = .pointer (some ⟨b5, 0, none⟩) := by kernel_rfl
            exact i_val rfl (.pointer (some ⟨b5, 17, none⟩)) w' (by rfl) (by go_simp) ⟨by kernel_rfl, hw⟩
          | 6, _ =>
            have h5 := haft 5 (by decide)
            have e78 : (AsYb3 y rl t0 t1 t2 dl u v x Q op b1 b3x b3y b5 b8 b10 Lx).eval (.tmp 78) = .pointer (some ⟨b5, 17, none⟩) := by show (bif Lx 5 then _ else _) = _; rw [h5]; rfl
            have g78 : (AsYb3 y rl t0 t1 t2 dl u v x Q op b1 b3x b3y b5 b8 b10 Lx).tmps[78]?.getD undef = .pointer (some ⟨b5, 17, none⟩) := by show (bif Lx 5 then _ else _) = _; rw [h5]; rfl
            exact i_wp rfl (by rfl) (wp_store_cell 3 _ _ rfl ⟨b5, 17, none⟩ (.int .i64 0) e78 rfl (kb_run_set hw (i := 3) rfl 3 17 (.int .i64 (bif Lx 6 then 0 else x.p17)) (.int .i64 0) (by rfl) (fun W h1 h2 => by go_simp)) ⟨by kernel_rfl, cast_blk (Kb.set (i := 3) hw rfl 17 (.int .i64 0)) (by rfl)⟩)
          | 7, _ =>
            have g6 : (AsYb3 y rl t0 t1 t2 dl u v x Q op b1 b3x b3y b5 b8 b10 Lx).tmps[6]?.getD undef = .pointer (some ⟨b5, 0, none⟩) := by kernel_rfl
            have e6 : (AsYb3 y rl t0 t1 t2 dl u v x Q op b1 b3x b3y b5 b8 b10 Lx).eval (.tmp 6) = .pointer (some ⟨b5, 0, none⟩) := by kernel_rfl
            exact i_val rfl (.pointer (some ⟨b5, 18, none⟩)) w' (by rfl) (by go_simp) ⟨by kernel_rfl, hw⟩
          | 8, _ =>
            have h7 := haft 7 (by decide)
            have e79 : (AsYb3 y rl t0 t1 t2 dl u v x Q op b1 b3x b3y b5 b8 b10 Lx).eval (.tmp 79) = .pointer (some ⟨b5, 18, none⟩) := by show (bif Lx 7 then _ else _) = _; rw [h7]; rfl
            have g79 : (AsYb3 y rl t0 t1 t2 dl u v x Q op b1 b3x b3y b5 b8 b10 Lx).tmps[79]?.getD undef = .pointer (some ⟨b5, 18, none⟩) := by show (bif Lx 7 then _ else _) = _; rw [h7]; rfl
            exact i_wp rfl (by rfl) (wp_store_cell 3 _ _ rfl ⟨b5, 18, none⟩ (.int .i64 0) e79 rfl (kb_run_set hw (i := 3) rfl 3 18 (.int .i64 (bif Lx 8 then 0 else x.p18)) (.int .i64 0) (by rfl) (fun W h1 h2 => by go_simp)) ⟨by kernel_rfl, cast_blk (Kb.set (i := 3) hw rfl 18 (.int .i64 0)) (by rfl)⟩)
          | 9, _ =>
            have g6 : (AsYb3 y rl t0 t1 t2 dl u v x Q op b1 b3x b3y b5 b8 b10 Lx).tmps[6]?.getD undef = .pointer (some ⟨b5, 0, none⟩) := by kernel_rfl
            have e6 : (AsYb3 y rl t0 t1 t2 dl u v x Q op b1 b3x b3y b5 b8 b10 Lx).eval (.tmp 6) = .pointer (some ⟨b5, 0, none⟩) := by kernel_rfl
            exact i_val rfl (.pointer (some ⟨b5, 9, none⟩)) w' (by rfl) (by go_simp) ⟨by kernel_rfl, hw⟩
          | 10, _ =>
            have h9 := haft 9 (by decide)
            have e80 : (AsYb3 y rl t0 t1 t2 dl u v x Q op b1 b3x b3y b5 b8 b10 Lx).eval (.tmp 80) = .pointer (some ⟨b5, 9, none⟩) := by show (bif Lx 9 then _ else _) = _; rw [h9]; rfl
            have g80 : (AsYb3 y rl t0 t1 t2 dl u v x Q op b1 b3x b3y b5 b8 b10 Lx).tmps[80]?.getD undef = .pointer (some ⟨b5, 9, none⟩) := by show (bif Lx 9 then _ else _) = _; rw [h9]; rfl
            exact i_wp rfl (by rfl) (wp_store_cell 4 _ _ rfl ⟨b5, 9, none⟩ (.bool false) e80 rfl (kb_run_set hw (i := 3) rfl 4 9 (.bool (bif Lx 10 then false else x.p9)) (.bool false) (by rfl) (fun W h1 h2 => by go_simp)) ⟨by kernel_rfl, cast_blk (Kb.set (i := 3) hw rfl 9 (.bool false)) (by rfl)⟩)
          | k + 11, h =>
            exfalso
            have h2 : k + 11 < 11 := h
            omega
        intro Lx ac w13 hI hall
        obtain ⟨rfl, hw⟩ := hI
        have hfr : AsYb3 y rl t0 t1 t2 dl u v x Q op b1 b3x b3y b5 b8 b10 Lx = { tmps := #[.agg (askA y rl t0 t1 t2 dl), .pointer (some ⟨b1, 0, none⟩), .bool false, .int .i64 4, .pointer (some ⟨b3x, 0, none⟩), .pointer (some ⟨b3y, 0, none⟩), .pointer (some ⟨b5, 0, none⟩), .pointer (some ⟨b8, 0, none⟩), .bool true, .bool op, .pointer (some ⟨b10, 0, none⟩), .bool true, .bool true, .bool false, .pointer (some ⟨b1, 15, none⟩), .int .u8 (rl : Nat), .int .u8 (Int.tmod (rl : Nat) 5), .int .i64 4, .pointer (some ⟨b1, 16, none⟩), .agg (#[.int .u8 (t0 : Nat), .int .u8 (t1 : Nat), .int .u8 (t2 : Nat)]), .agg (vcA v), .pointer (some ⟨b1, 19, none⟩), .int .i64 dl, .agg (cfA ⟨0, 0, 0, dl, 0, 0⟩), .pointer (some ⟨b1, 0, none⟩), .agg (#[.bool y.f0, .bool y.f1, .bool y.f2, .bool y.f3, .bool y.f4, .int .u8 (y.n0 : Nat), .int .u8 (y.n1 : Nat), .int .u8 (y.n2 : Nat), .int .u8 (y.v0 : Nat), .int .u8 (y.v1 : Nat), .int .u8 (y.v2 : Nat), .int .i32 y.k0, .int .i32 y.k1, .int .i32 y.k2, .int .i32 y.k3]), .agg (poA ⟨x.p0, x.p1, x.p2, x.p3, x.p4, x.p5, x.p6, x.p7, x.p8, x.p9, x.p10, x.p11, x.p12, (u.r : Nat), (u.c : Nat), (u.b : Nat), (u.p : Nat), x.p17, x.p18, x.p19, x.p20⟩), .tuple #[.agg (poA Q), .bool true, .bool op], .agg (poA ⟨x.p0, x.p1, x.p2, x.p3, x.p4, x.p5, x.p6, x.p7, x.p8, x.p9, x.p10, x.p11, x.p12, (u.r : Nat), (u.c : Nat), (u.b : Nat), (u.p : Nat), x.p17, x.p18, x.p19, x.p20⟩), .int .i64 4, .agg (vcA v), .agg (cfA ⟨0, 0, 0, dl, 0, 0⟩), .tuple #[.agg (poA Q), .bool true, .bool op], .agg (poA Q), .bool true, .bool op, .agg (poA ⟨x.p0, x.p1, x.p2, x.p3, x.p4, x.p5, x.p6, x.p7, x.p8, x.p9, x.p10, x.p11, x.p12, (u.r : Nat), (u.c : Nat), (u.b : Nat), (u.p : Nat), x.p17, x.p18, x.p19, x.p20⟩), .int .i64 4, .pointer (some ⟨b5, 10, none⟩), .int .i64 4, .bool false, .bool false, .int .i64 4, .bool false, .bool false, undef, undef, undef, .int .i64 4, .bool false, .bool false, undef, undef, undef, .bool false, undef, undef, undef, .int .i64 4, .bool true, .pointer (some ⟨b10, 10, none⟩), .int .i64 x.p10, .bool true, .bool true, undef, undef, undef, .bool true, .bool true, undef, undef, undef, undef, .bool true, .bool true, .agg (vcA v), .pointer (some ⟨b5, 12, none⟩), .pointer (some ⟨b5, 13, none⟩), .pointer (some ⟨b5, 17, none⟩), .pointer (some ⟨b5, 18, none⟩), .pointer (some ⟨b5, 9, none⟩), undef, undef, undef, undef, undef, undef, undef, undef, undef, undef, undef, undef, undef, undef, undef, undef, undef, undef, undef, undef, undef, undef, undef, undef, undef, undef, undef, undef, undef, undef, undef, undef, undef, undef, undef], defers := [] } := by unfold AsYb3; simp only [hall 0 (by decide), hall 1 (by decide), hall 3 (by decide), hall 5 (by decide), hall 7 (by decide), hall 9 (by decide), cond_true]
        rw [hfr]
        clear hfr
        have hL2 := hall 2 (by decide)
        have hL4 := hall 4 (by decide)
        have hL6 := hall 6 (by decide)
        have hL8 := hall 8 (by decide)
        have hL10 := hall 10 (by decide)
        simp only [hL2, hL4, hL6, hL8, hL10, cond_true] at hw
        have K13 := Lib.hid (show Kb w [(b1, askA y rl t0 t1 t2 dl, 28), (b3x, vcA v, 35), (b3y, cfA ⟨0, 0, 0, dl, 0, 0⟩, 38), (b5, poA ⟨x.p0, x.p1, x.p2, x.p3, x.p4, x.p5, x.p6, x.p7, x.p8, false, 4, x.p11, 1, (v.r : Nat), (v.c : Nat), (v.b : Nat), (v.p : Nat), 0, 0, x.p19, x.p20⟩, 42), (b8, poA Q, 42), (b10, poA ⟨x.p0, x.p1, x.p2, x.p3, x.p4, x.p5, x.p6, x.p7, x.p8, x.p9, x.p10, x.p11, x.p12, (u.r : Nat), (u.c : Nat), (u.b : Nat), (u.p : Nat), x.p17, x.p18, x.p19, x.p20⟩, 42)] w13 from hw)
        clear hw hall hL2 hL4 hL6 hL8 hL10
        go_upto_region 17 with fail
        refine wp_region_lit ?_
        refine wpList_val (.pointer (some ⟨b10, 10, none⟩)) (by rfl) (by go_simp) ?_
        (try simp only [Act.put, List.getElem_toArray, List.getElem_cons_succ, List.getElem_cons_zero, List.setIfInBounds_toArray, List.set_cons_zero, List.set_cons_succ])
        refine wpList_val (.int .i64 x.p10) (by rfl) (by have q : w13.cell? ⟨b10, 10, none⟩ = some (.int .i64 x.p10) := K13.out.cell (i := 5) rfl (by rfl); go_simp) ?_
        (try simp only [Act.put, List.getElem_toArray, List.getElem_cons_succ, List.getElem_cons_zero, List.setIfInBounds_toArray, List.set_cons_zero, List.set_cons_succ])
        refine wpList_val (.bool true) (by rfl) (by have q := HP10.out; go_simp) ?_
        (try simp only [Act.put, List.getElem_toArray, List.getElem_cons_succ, List.getElem_cons_zero, List.setIfInBounds_toArray, List.set_cons_zero, List.set_cons_succ])
        refine wpList_nil ?_
        go_upto_region 18 with fail
        refine wp_region_inv (I := fun L ac w' => ac = AsZb3 y rl t0 t1 t2 dl u v x Q op b1 b3x b3y b5 b8 b10 L ∧ Kb w [(b1, askA y rl t0 t1 t2 dl, 28), (b3x, vcA v, 35), (b3y, cfA ⟨0, 0, 0, dl, 0, 0⟩, 38), (b5, poA ⟨x.p0, x.p1, x.p2, x.p3, x.p4, x.p5, x.p6, x.p7, x.p8, false, 4, (bif L 3 then 0 else x.p11), 1, (v.r : Nat), (v.c : Nat), (v.b : Nat), (v.p : Nat), 0, 0, (bif L 5 then dl else x.p19), x.p20⟩, 42), (b8, poA Q, 42), (b10, poA ⟨x.p0, x.p1, x.p2, x.p3, x.p4, x.p5, x.p6, x.p7, x.p8, x.p9, x.p10, x.p11, x.p12, (u.r : Nat), (u.c : Nat), (u.b : Nat), (u.p : Nat), x.p17, x.p18, x.p19, x.p20⟩, 42)] w') (by kernel_rfl) (by kernel_rfl) ⟨by kernel_rfl, K13.out.drew⟩ ?_ ?_
        · intro i hi Lx ac w' hI hL haft
          obtain ⟨rfl, hw⟩ := hI
          match i, hi with
          | 0, _ =>
            have g5 : (AsZb3 y rl t0 t1 t2 dl u v x Q op b1 b3x b3y b5 b8 b10 Lx).tmps[5]?.getD undef = .pointer (some ⟨b3y, 0, none⟩) := by kernel_rfl
            have e5 : (AsZb3 y rl t0 t1 t2 dl u v x Q op b1 b3x b3y b5 b8 b10 Lx).eval (.tmp 5) = .pointer (some ⟨b3y, 0, none⟩) := by kernel_rfl
            exact i_val rfl (.pointer (some ⟨b3y, 3, none⟩)) w' (by rfl) (by go_simp) ⟨by kernel_rfl, hw⟩
          | 1, _ =>
            have h0 := haft 0 (by decide)
            have e84 : (AsZb3 y rl t0 t1 t2 dl u v x Q op b1 b3x b3y b5 b8 b10 Lx).eval (.tmp 84) = .pointer (some ⟨b3y, 3, none⟩) := by show (bif Lx 0 then _ else _) = _; rw [h0]; rfl
            have g84 : (AsZb3 y rl t0 t1 t2 dl u v x Q op b1 b3x b3y b5 b8 b10 Lx).tmps[84]?.getD undef = .pointer (some ⟨b3y, 3, none⟩) := by show (bif Lx 0 then _ else _) = _; rw [h0]; rfl
            exact i_val rfl (.int .i64 dl) w' (by rfl) (by have q : w'.cell? ⟨b3y, 3, none⟩ = some (.int .i64 dl) := Kb.cell (i := 2) hw rfl (by rfl); go_simp) ⟨by kernel_rfl, hw⟩
          | 2, _ =>
            have g6 : (AsZb3 y rl t0 t1 t2 dl u v x Q op b1 b3x b3y b5 b8 b10 Lx).tmps[6]?.getD undef = .pointer (some ⟨b5, 0, none⟩) := by kernel_rfl
            have e6 : (AsZb3 y rl t0 t1 t2 dl u v x Q op b1 b3x b3y b5 b8 b10 Lx).eval (.tmp 6) = .pointer (some ⟨b5, 0, none⟩) := by kernel_rfl
            exact i_val rfl (.pointer (some ⟨b5, 11, none⟩)) w' (by rfl) (by go_simp) ⟨by kernel_rfl, hw⟩
          | 3, _ =>
            have h2 := haft 2 (by decide)
            have e86 : (AsZb3 y rl t0 t1 t2 dl u v x Q op b1 b3x b3y b5 b8 b10 Lx).eval (.tmp 86) = .pointer (some ⟨b5, 11, none⟩) := by show (bif Lx 2 then _ else _) = _; rw [h2]; rfl
            have g86 : (AsZb3 y rl t0 t1 t2 dl u v x Q op b1 b3x b3y b5 b8 b10 Lx).tmps[86]?.getD undef = .pointer (some ⟨b5, 11, none⟩) := by show (bif Lx 2 then _ else _) = _; rw [h2]; rfl
            exact i_wp rfl (by rfl) (wp_store_cell 3 _ _ rfl ⟨b5, 11, none⟩ (.int .i64 0) e86 rfl (kb_run_set hw (i := 3) rfl 3 11 (.int .i64 (bif Lx 3 then 0 else x.p11)) (.int .i64 0) (by rfl) (fun W h1 h2 => by go_simp)) ⟨by kernel_rfl, cast_blk (Kb.set (i := 3) hw rfl 11 (.int .i64 0)) (by rfl)⟩)
          | 4, _ =>
            have g6 : (AsZb3 y rl t0 t1 t2 dl u v x Q op b1 b3x b3y b5 b8 b10 Lx).tmps[6]?.getD undef = .pointer (some ⟨b5, 0, none⟩) := by kernel_rfl
            have e6 : (AsZb3 y rl t0 t1 t2 dl u v x Q op b1 b3x b3y b5 b8 b10 Lx).eval (.tmp 6) = .pointer (some ⟨b5, 0, none⟩) := by kernel_rfl
            exact i_val rfl (.pointer (some ⟨b5, 19, none⟩)) w' (by rfl) (by go_simp) ⟨by kernel_rfl, hw⟩
          | 5, _ =>
            have h1 := haft 1 (by decide)
            have e85 : (AsZb3 y rl t0 t1 t2 dl u v x Q op b1 b3x b3y b5 b8 b10 Lx).eval (.tmp 85) = .int .i64 dl := by show (bif Lx 1 then _ else _) = _; rw [h1]; rfl
            have g85 : (AsZb3 y rl t0 t1 t2 dl u v x Q op b1 b3x b3y b5 b8 b10 Lx).tmps[85]?.getD undef = .int .i64 dl := by show (bif Lx 1 then _ else _) = _; rw [h1]; rfl
            have h4 := haft 4 (by decide)
            have e87 : (AsZb3 y rl t0 t1 t2 dl u v x Q op b1 b3x b3y b5 b8 b10 Lx).eval (.tmp 87) = .pointer (some ⟨b5, 19, none⟩) := by show (bif Lx 4 then _ else _) = _; rw [h4]; rfl
            have g87 : (AsZb3 y rl t0 t1 t2 dl u v x Q op b1 b3x b3y b5 b8 b10 Lx).tmps[87]?.getD undef = .pointer (some ⟨b5, 19, none⟩) := by show (bif Lx 4 then _ else _) = _; rw [h4]; rfl
            exact i_wp rfl (by rfl) (wp_store_cell 3 _ _ rfl ⟨b5, 19, none⟩ (.int .i64 dl) e87 e85 (kb_run_set hw (i := 3) rfl 3 19 (.int .i64 (bif Lx 5 then dl else x.p19)) (.int .i64 dl) (by rfl) (fun W h1 h2 => by go_simp)) ⟨by kernel_rfl, cast_blk (Kb.set (i := 3) hw rfl 19 (.int .i64 dl)) (by rfl)⟩)
          | k + 6, h =>
            exfalso
            have h2 : k + 6 < 6 := h
            omega
        intro Lx ac w14 hI hall
        obtain ⟨rfl, hw⟩ := hI
        have hfr : AsZb3 y rl t0 t1 t2 dl u v x Q op b1 b3x b3y b5 b8 b10 Lx = { tmps := #[.agg (askA y rl t0 t1 t2 dl), .pointer (some ⟨b1, 0, none⟩), .bool false, .int .i64 4, .pointer (some ⟨b3x, 0, none⟩), .pointer (some ⟨b3y, 0, none⟩), .pointer (some ⟨b5, 0, none⟩), .pointer (some ⟨b8, 0, none⟩), .bool true, .bool op, .pointer (some ⟨b10, 0, none⟩), .bool true, .bool true, .bool false, .pointer (some ⟨b1, 15, none⟩), .int .u8 (rl : Nat), .int .u8 (Int.tmod (rl : Nat) 5), .int .i64 4, .pointer (some ⟨b1, 16, none⟩), .agg (#[.int .u8 (t0 : Nat), .int .u8 (t1 : Nat), .int .u8 (t2 : Nat)]), .agg (vcA v), .pointer (some ⟨b1, 19, none⟩), .int .i64 dl, .agg (cfA ⟨0, 0, 0, dl, 0, 0⟩), .pointer (some ⟨b1, 0, none⟩), .agg (#[.bool y.f0, .bool y.f1, .bool y.f2, .bool y.f3, .bool y.f4, .int .u8 (y.n0 : Nat), .int .u8 (y.n1 : Nat), .int .u8 (y.n2 : Nat), .int .u8 (y.v0 : Nat), .int .u8 (y.v1 : Nat), .int .u8 (y.v2 : Nat), .int .i32 y.k0, .int .i32 y.k1, .int .i32 y.k2, .int .i32 y.k3]), .agg (poA ⟨x.p0, x.p1, x.p2, x.p3, x.p4, x.p5, x.p6, x.p7, x.p8, x.p9, x.p10, x.p11, x.p12, (u.r : Nat), (u.c : Nat), (u.b : Nat), (u.p : Nat), x.p17, x.p18, x.p19, x.p20⟩), .tuple #[.agg (poA Q), .bool true, .bool op], .agg (poA ⟨x.p0, x.p1, x.p2, x.p3, x.p4, x.p5, x.p6, x.p7, x.p8, x.p9, x.p10, x.p11, x.p12, (u.r : Nat), (u.c : Nat), (u.b : Nat), (u.p : Nat), x.p17, x.p18, x.p19, x.p20⟩), .int .i64 4, .agg (vcA v), .agg (cfA ⟨0, 0, 0, dl, 0, 0⟩), .tuple #[.agg (poA Q), .bool true, .bool op], .agg (poA Q), .bool true, .bool op, .agg (poA ⟨x.p0, x.p1, x.p2, x.p3, x.p4, x.p5, x.p6, x.p7, x.p8, x.p9, x.p10, x.p11, x.p12, (u.r : Nat), (u.c : Nat), (u.b : Nat), (u.p : Nat), x.p17, x.p18, x.p19, x.p20⟩), .int .i64 4, .pointer (some ⟨b5, 10, none⟩), .int .i64 4, .bool false, .bool false, .int .i64 4, .bool false, .bool false, undef, undef, undef, .int .i64 4, .bool false, .bool false, undef, undef, undef, .bool false, undef, undef, undef, .int .i64 4, .bool true, .pointer (some ⟨b10, 10, none⟩), .int .i64 x.p10, .bool true, .bool true, undef, undef, undef, .bool true, .bool true, undef, undef, undef, undef, .bool true, .bool true, .agg (vcA v), .pointer (some ⟨b5, 12, none⟩), .pointer (some ⟨b5, 13, none⟩), .pointer (some ⟨b5, 17, none⟩), .pointer (some ⟨b5, 18, none⟩), .pointer (some ⟨b5, 9, none⟩), .pointer (some ⟨b10, 10, none⟩), .int .i64 x.p10, .bool true, .pointer (some ⟨b3y, 3, none⟩), .int .i64 dl, .pointer (some ⟨b5, 11, none⟩), .pointer (some ⟨b5, 19, none⟩), undef, undef, undef, undef, undef, undef, undef, undef, undef, undef, undef, undef, undef, undef, undef, undef, undef, undef, undef, undef, undef, undef, undef, undef, undef, undef, undef, undef], defers := [] } := by unfold AsZb3; simp only [hall 0 (by decide), hall 1 (by decide), hall 2 (by decide), hall 4 (by decide), cond_true]
        rw [hfr]
        clear hfr
        have hL3 := hall 3 (by decide)
        have hL5 := hall 5 (by decide)
        simp only [hL3, hL5, cond_true] at hw
        have K14 := Lib.hid (show Kb w [(b1, askA y rl t0 t1 t2 dl, 28), (b3x, vcA v, 35), (b3y, cfA ⟨0, 0, 0, dl, 0, 0⟩, 38), (b5, poA ⟨x.p0, x.p1, x.p2, x.p3, x.p4, x.p5, x.p6, x.p7, x.p8, false, 4, 0, 1, (v.r : Nat), (v.c : Nat), (v.b : Nat), (v.p : Nat), 0, 0, dl, x.p20⟩, 42), (b8, poA Q, 42), (b10, poA ⟨x.p0, x.p1, x.p2, x.p3, x.p4, x.p5, x.p6, x.p7, x.p8, x.p9, x.p10, x.p11, x.p12, (u.r : Nat), (u.c : Nat), (u.b : Nat), (u.p : Nat), x.p17, x.p18, x.p19, x.p20⟩, 42)] w14 from hw)
        clear hw hall hL3 hL5
        go_upto_region 19 with fail
        refine wp_region_lit ?_
        refine wpList_val (.pointer (some ⟨b10, 5, none⟩)) (by rfl) (by go_simp) ?_
        (try simp only [Act.put, List.getElem_toArray, List.getElem_cons_succ, List.getElem_cons_zero, List.setIfInBounds_toArray, List.set_cons_zero, List.set_cons_succ])
        refine wpList_val (.bool true) (by rfl) (by have q : w14.cell? ⟨b10, 5, none⟩ = some (.bool x.p5) := K14.out.cell (i := 5) rfl (by rfl); rw [H5.out] at q; go_simp) ?_
        (try simp only [Act.put, List.getElem_toArray, List.getElem_cons_succ, List.getElem_cons_zero, List.setIfInBounds_toArray, List.set_cons_zero, List.set_cons_succ])
        refine wpList_val (.bool true) (by rfl) (by go_simp) ?_
        (try simp only [Act.put, List.getElem_toArray, List.getElem_cons_succ, List.getElem_cons_zero, List.setIfInBounds_toArray, List.set_cons_zero, List.set_cons_succ])
        refine wpList_val (.pointer (some ⟨b10, 8, none⟩)) (by rfl) (by go_simp) ?_
        (try simp only [Act.put, List.getElem_toArray, List.getElem_cons_succ, List.getElem_cons_zero, List.setIfInBounds_toArray, List.set_cons_zero, List.set_cons_succ])
        refine wpList_val (.bool true) (by rfl) (by have q : w14.cell? ⟨b10, 8, none⟩ = some (.bool x.p8) := K14.out.cell (i := 5) rfl (by rfl); rw [H8.out] at q; go_simp) ?_
        (try simp only [Act.put, List.getElem_toArray, List.getElem_cons_succ, List.getElem_cons_zero, List.setIfInBounds_toArray, List.set_cons_zero, List.set_cons_succ])
        refine wpList_val (.bool true) (by rfl) (run_pick_yes (.tmp 90) (.tmp 92) (.const (.bool false)) _ rfl rfl rfl) ?_
        (try simp only [Act.put, List.getElem_toArray, List.getElem_cons_succ, List.getElem_cons_zero, List.setIfInBounds_toArray, List.set_cons_zero, List.set_cons_succ])
        refine wpList_nil ?_
        go_upto_region 20 with fail
        refine wp_region_lit ?_
        refine wpList_val (.pointer (some ⟨b5, 11, none⟩)) (by rfl) (by go_simp) ?_
        (try simp only [Act.put, List.getElem_toArray, List.getElem_cons_succ, List.getElem_cons_zero, List.setIfInBounds_toArray, List.set_cons_zero, List.set_cons_succ])
        refine kb_set K14.out 3 rfl 3 _ _ 11 (.int .i64 2) rfl (by rfl) rfl rfl (kb_run_set K14.out (i := 3) rfl 3 11 (.int .i64 0) (.int .i64 2) (by rfl) (fun W h1 h2 => by go_simp)) (poA ⟨x.p0, x.p1, x.p2, x.p3, x.p4, x.p5, x.p6, x.p7, x.p8, false, 4, 2, 1, (v.r : Nat), (v.c : Nat), (v.b : Nat), (v.p : Nat), 0, 0, dl, x.p20⟩) (by kernel_rfl) ?_
        intro w15 hk
        have K15 := Lib.hid (show Kb w [(b1, askA y rl t0 t1 t2 dl, 28), (b3x, vcA v, 35), (b3y, cfA ⟨0, 0, 0, dl, 0, 0⟩, 38), (b5, poA ⟨x.p0, x.p1, x.p2, x.p3, x.p4, x.p5, x.p6, x.p7, x.p8, false, 4, 2, 1, (v.r : Nat), (v.c : Nat), (v.b : Nat), (v.p : Nat), 0, 0, dl, x.p20⟩, 42), (b8, poA Q, 42), (b10, poA ⟨x.p0, x.p1, x.p2, x.p3, x.p4, x.p5, x.p6, x.p7, x.p8, x.p9, x.p10, x.p11, x.p12, (u.r : Nat), (u.c : Nat), (u.b : Nat), (u.p : Nat), x.p17, x.p18, x.p19, x.p20⟩, 42)] w15 from hk)
        clear hk
        (try simp only [Act.put, List.getElem_toArray, List.getElem_cons_succ, List.getElem_cons_zero, List.setIfInBounds_toArray, List.set_cons_zero, List.set_cons_succ])
        refine wpList_val (.pointer (some ⟨b5, 19, none⟩)) (by rfl) (by go_simp) ?_
        (try simp only [Act.put, List.getElem_toArray, List.getElem_cons_succ, List.getElem_cons_zero, List.setIfInBounds_toArray, List.set_cons_zero, List.set_cons_succ])
        refine kb_set K15.out 3 rfl 3 _ _ 19 (.int .i64 0) rfl (by rfl) rfl rfl (kb_run_set K15.out (i := 3) rfl 3 19 (.int .i64 dl) (.int .i64 0) (by rfl) (fun W h1 h2 => by go_simp)) (poA ⟨x.p0, x.p1, x.p2, x.p3, x.p4, x.p5, x.p6, x.p7, x.p8, false, 4, 2, 1, (v.r : Nat), (v.c : Nat), (v.b : Nat), (v.p : Nat), 0, 0, 0, x.p20⟩) (by kernel_rfl) ?_
        intro w16 hk
        have K16 := Lib.hid (show Kb w [(b1, askA y rl t0 t1 t2 dl, 28), (b3x, vcA v, 35), (b3y, cfA ⟨0, 0, 0, dl, 0, 0⟩, 38), (b5, poA ⟨x.p0, x.p1, x.p2, x.p3, x.p4, x.p5, x.p6, x.p7, x.p8, false, 4, 2, 1, (v.r : Nat), (v.c : Nat), (v.b : Nat), (v.p : Nat), 0, 0, 0, x.p20⟩, 42), (b8, poA Q, 42), (b10, poA ⟨x.p0, x.p1, x.p2, x.p3, x.p4, x.p5, x.p6, x.p7, x.p8, x.p9, x.p10, x.p11, x.p12, (u.r : Nat), (u.c : Nat), (u.b : Nat), (u.p : Nat), x.p17, x.p18, x.p19, x.p20⟩, 42)] w16 from hk)
        clear hk
        (try simp only [Act.put, List.getElem_toArray, List.getElem_cons_succ, List.getElem_cons_zero, List.setIfInBounds_toArray, List.set_cons_zero, List.set_cons_succ])
        refine wpList_nil ?_
        go_upto_region 21 with fail
        have hop : op = (decide (2 = (2 : Int)) && !decide (x.p11 = 2)) := by rw [HO.out, HQQ.out]; rfl
        by_cases hw2 : x.p11 = 2
        case pos =>
          have HW := Lib.hid hw2
          clear hw2
          have HOP := Lib.hid (show op = false from by rw [hop]; simp [HW.out])
          clear hop
          refine wp_region_lit ?_
          refine wpList_val (.agg (poA Q)) (by rfl) (kb_all K16.out 4 rfl 42 _ rfl rfl Try.underlying42 rfl (size50)) ?_
          (try simp only [Act.put, List.getElem_toArray, List.getElem_cons_succ, List.getElem_cons_zero, List.setIfInBounds_toArray, List.set_cons_zero, List.set_cons_succ])
          refine wpList_val (.agg (poA ⟨x.p0, x.p1, x.p2, x.p3, x.p4, x.p5, x.p6, x.p7, x.p8, false, 4, 2, 1, (v.r : Nat), (v.c : Nat), (v.b : Nat), (v.p : Nat), 0, 0, 0, x.p20⟩)) (by rfl) (kb_all K16.out 3 rfl 42 _ rfl rfl Try.underlying42 rfl (size50)) ?_
          (try simp only [Act.put, List.getElem_toArray, List.getElem_cons_succ, List.getElem_cons_zero, List.setIfInBounds_toArray, List.set_cons_zero, List.set_cons_succ])
          refine wpList_val (.bool true) (by rfl) (by have q := eq_po2 (show Q = ⟨x.p0, x.p1, x.p2, x.p3, x.p4, x.p5, x.p6, x.p7, x.p8, false, 4, 2, 1, (v.r : Nat), (v.c : Nat), (v.b : Nat), (v.p : Nat), 0, 0, 0, x.p20⟩ from HQQ.out); go_simp) ?_
          (try simp only [Act.put, List.getElem_toArray, List.getElem_cons_succ, List.getElem_cons_zero, List.setIfInBounds_toArray, List.set_cons_zero, List.set_cons_succ])
          refine wpList_val (.bool true) (by rfl) (by go_simp) ?_
          (try simp only [Act.put, List.getElem_toArray, List.getElem_cons_succ, List.getElem_cons_zero, List.setIfInBounds_toArray, List.set_cons_zero, List.set_cons_succ])
          refine wpList_val (.bool true) (by rfl) (by go_simp) ?_
          (try simp only [Act.put, List.getElem_toArray, List.getElem_cons_succ, List.getElem_cons_zero, List.setIfInBounds_toArray, List.set_cons_zero, List.set_cons_succ])
          refine wpList_val (.bool true) (by rfl) (by go_simp) ?_
          (try simp only [Act.put, List.getElem_toArray, List.getElem_cons_succ, List.getElem_cons_zero, List.setIfInBounds_toArray, List.set_cons_zero, List.set_cons_succ])
          refine wpList_val (.bool true) (by rfl) (by go_simp) ?_
          (try simp only [Act.put, List.getElem_toArray, List.getElem_cons_succ, List.getElem_cons_zero, List.setIfInBounds_toArray, List.set_cons_zero, List.set_cons_succ])
          refine wpList_val (.bool true) (by rfl) (run_pick_yes (.tmp 99) (.tmp 102) (.const (.bool false)) _ rfl rfl rfl) ?_
          (try simp only [Act.put, List.getElem_toArray, List.getElem_cons_succ, List.getElem_cons_zero, List.setIfInBounds_toArray, List.set_cons_zero, List.set_cons_succ])
          refine wpList_val (.bool true) (by rfl) (by go_simp) ?_
          (try simp only [Act.put, List.getElem_toArray, List.getElem_cons_succ, List.getElem_cons_zero, List.setIfInBounds_toArray, List.set_cons_zero, List.set_cons_succ])
          refine wpList_val (.bool op) (by rfl) (by go_simp) ?_
          (try simp only [Act.put, List.getElem_toArray, List.getElem_cons_succ, List.getElem_cons_zero, List.setIfInBounds_toArray, List.set_cons_zero, List.set_cons_succ])
          refine wpList_val (.pointer (some ⟨b5, 11, none⟩)) (by rfl) (by go_simp) ?_
          (try simp only [Act.put, List.getElem_toArray, List.getElem_cons_succ, List.getElem_cons_zero, List.setIfInBounds_toArray, List.set_cons_zero, List.set_cons_succ])
          refine wpList_val (.int .i64 2) (by rfl) (by have q : w16.cell? ⟨b5, 11, none⟩ = some (.int .i64 2) := K16.out.cell (i := 3) rfl (by rfl); go_simp) ?_
          (try simp only [Act.put, List.getElem_toArray, List.getElem_cons_succ, List.getElem_cons_zero, List.setIfInBounds_toArray, List.set_cons_zero, List.set_cons_succ])
          refine wpList_val (.bool true) (by rfl) (by go_simp) ?_
          (try simp only [Act.put, List.getElem_toArray, List.getElem_cons_succ, List.getElem_cons_zero, List.setIfInBounds_toArray, List.set_cons_zero, List.set_cons_succ])
          refine wpList_val (.bool true) (by rfl) (by go_simp) ?_
          (try simp only [Act.put, List.getElem_toArray, List.getElem_cons_succ, List.getElem_cons_zero, List.setIfInBounds_toArray, List.set_cons_zero, List.set_cons_succ])
          refine wpList_val (.pointer (some ⟨b10, 11, none⟩)) (by rfl) (by go_simp) ?_
          (try simp only [Act.put, List.getElem_toArray, List.getElem_cons_succ, List.getElem_cons_zero, List.setIfInBounds_toArray, List.set_cons_zero, List.set_cons_succ])
          refine wpList_val (.int .i64 x.p11) (by rfl) (by have q : w16.cell? ⟨b10, 11, none⟩ = some (.int .i64 x.p11) := K16.out.cell (i := 5) rfl (by rfl); go_simp) ?_
          (try simp only [Act.put, List.getElem_toArray, List.getElem_cons_succ, List.getElem_cons_zero, List.setIfInBounds_toArray, List.set_cons_zero, List.set_cons_succ])
          refine wpList_val (.bool false) (by rfl) (by have q := HW.out; go_simp) ?_
          (try simp only [Act.put, List.getElem_toArray, List.getElem_cons_succ, List.getElem_cons_zero, List.setIfInBounds_toArray, List.set_cons_zero, List.set_cons_succ])
          refine wpList_val (.bool false) (by rfl) (run_pick_yes (.tmp 109) (.tmp 112) (.const (.bool false)) _ rfl rfl rfl) ?_
          (try simp only [Act.put, List.getElem_toArray, List.getElem_cons_succ, List.getElem_cons_zero, List.setIfInBounds_toArray, List.set_cons_zero, List.set_cons_succ])
          refine wpList_val (.bool true) (by rfl) (by have q := HOP.out; go_simp) ?_
          (try simp only [Act.put, List.getElem_toArray, List.getElem_cons_succ, List.getElem_cons_zero, List.setIfInBounds_toArray, List.set_cons_zero, List.set_cons_succ])
          refine wpList_val (.bool true) (by rfl) (run_pick_yes (.tmp 104) (.tmp 114) (.const (.bool false)) _ rfl rfl rfl) ?_
          (try simp only [Act.put, List.getElem_toArray, List.getElem_cons_succ, List.getElem_cons_zero, List.setIfInBounds_toArray, List.set_cons_zero, List.set_cons_succ])
          refine wpList_val (.bool true) (by rfl) (by go_simp) ?_
          (try simp only [Act.put, List.getElem_toArray, List.getElem_cons_succ, List.getElem_cons_zero, List.setIfInBounds_toArray, List.set_cons_zero, List.set_cons_succ])
          refine wpList_nil ?_
          go_wp2_with fail
          go_ret
          exact ⟨ret_bool (rfl), K16.out.below⟩
        case neg =>
          have HW := Lib.hid hw2
          clear hw2
          have HOP := Lib.hid (show op = true from by rw [hop]; simp [HW.out])
          clear hop
          refine wp_region_lit ?_
          refine wpList_val (.agg (poA Q)) (by rfl) (kb_all K16.out 4 rfl 42 _ rfl rfl Try.underlying42 rfl (size50)) ?_
          (try simp only [Act.put, List.getElem_toArray, List.getElem_cons_succ, List.getElem_cons_zero, List.setIfInBounds_toArray, List.set_cons_zero, List.set_cons_succ])
          refine wpList_val (.agg (poA ⟨x.p0, x.p1, x.p2, x.p3, x.p4, x.p5, x.p6, x.p7, x.p8, false, 4, 2, 1, (v.r : Nat), (v.c : Nat), (v.b : Nat), (v.p : Nat), 0, 0, 0, x.p20⟩)) (by rfl) (kb_all K16.out 3 rfl 42 _ rfl rfl Try.underlying42 rfl (size50)) ?_
          (try simp only [Act.put, List.getElem_toArray, List.getElem_cons_succ, List.getElem_cons_zero, List.setIfInBounds_toArray, List.set_cons_zero, List.set_cons_succ])
          refine wpList_val (.bool true) (by rfl) (by have q := eq_po2 (show Q = ⟨x.p0, x.p1, x.p2, x.p3, x.p4, x.p5, x.p6, x.p7, x.p8, false, 4, 2, 1, (v.r : Nat), (v.c : Nat), (v.b : Nat), (v.p : Nat), 0, 0, 0, x.p20⟩ from HQQ.out); go_simp) ?_
          (try simp only [Act.put, List.getElem_toArray, List.getElem_cons_succ, List.getElem_cons_zero, List.setIfInBounds_toArray, List.set_cons_zero, List.set_cons_succ])
          refine wpList_val (.bool true) (by rfl) (by go_simp) ?_
          (try simp only [Act.put, List.getElem_toArray, List.getElem_cons_succ, List.getElem_cons_zero, List.setIfInBounds_toArray, List.set_cons_zero, List.set_cons_succ])
          refine wpList_val (.bool true) (by rfl) (by go_simp) ?_
          (try simp only [Act.put, List.getElem_toArray, List.getElem_cons_succ, List.getElem_cons_zero, List.setIfInBounds_toArray, List.set_cons_zero, List.set_cons_succ])
          refine wpList_val (.bool true) (by rfl) (by go_simp) ?_
          (try simp only [Act.put, List.getElem_toArray, List.getElem_cons_succ, List.getElem_cons_zero, List.setIfInBounds_toArray, List.set_cons_zero, List.set_cons_succ])
          refine wpList_val (.bool true) (by rfl) (by go_simp) ?_
          (try simp only [Act.put, List.getElem_toArray, List.getElem_cons_succ, List.getElem_cons_zero, List.setIfInBounds_toArray, List.set_cons_zero, List.set_cons_succ])
          refine wpList_val (.bool true) (by rfl) (run_pick_yes (.tmp 99) (.tmp 102) (.const (.bool false)) _ rfl rfl rfl) ?_
          (try simp only [Act.put, List.getElem_toArray, List.getElem_cons_succ, List.getElem_cons_zero, List.setIfInBounds_toArray, List.set_cons_zero, List.set_cons_succ])
          refine wpList_val (.bool true) (by rfl) (by go_simp) ?_
          (try simp only [Act.put, List.getElem_toArray, List.getElem_cons_succ, List.getElem_cons_zero, List.setIfInBounds_toArray, List.set_cons_zero, List.set_cons_succ])
          refine wpList_val (.bool op) (by rfl) (by go_simp) ?_
          (try simp only [Act.put, List.getElem_toArray, List.getElem_cons_succ, List.getElem_cons_zero, List.setIfInBounds_toArray, List.set_cons_zero, List.set_cons_succ])
          refine wpList_val (.pointer (some ⟨b5, 11, none⟩)) (by rfl) (by go_simp) ?_
          (try simp only [Act.put, List.getElem_toArray, List.getElem_cons_succ, List.getElem_cons_zero, List.setIfInBounds_toArray, List.set_cons_zero, List.set_cons_succ])
          refine wpList_val (.int .i64 2) (by rfl) (by have q : w16.cell? ⟨b5, 11, none⟩ = some (.int .i64 2) := K16.out.cell (i := 3) rfl (by rfl); go_simp) ?_
          (try simp only [Act.put, List.getElem_toArray, List.getElem_cons_succ, List.getElem_cons_zero, List.setIfInBounds_toArray, List.set_cons_zero, List.set_cons_succ])
          refine wpList_val (.bool true) (by rfl) (by go_simp) ?_
          (try simp only [Act.put, List.getElem_toArray, List.getElem_cons_succ, List.getElem_cons_zero, List.setIfInBounds_toArray, List.set_cons_zero, List.set_cons_succ])
          refine wpList_val (.bool true) (by rfl) (by go_simp) ?_
          (try simp only [Act.put, List.getElem_toArray, List.getElem_cons_succ, List.getElem_cons_zero, List.setIfInBounds_toArray, List.set_cons_zero, List.set_cons_succ])
          refine wpList_val (.pointer (some ⟨b10, 11, none⟩)) (by rfl) (by go_simp) ?_
          (try simp only [Act.put, List.getElem_toArray, List.getElem_cons_succ, List.getElem_cons_zero, List.setIfInBounds_toArray, List.set_cons_zero, List.set_cons_succ])
          refine wpList_val (.int .i64 x.p11) (by rfl) (by have q : w16.cell? ⟨b10, 11, none⟩ = some (.int .i64 x.p11) := K16.out.cell (i := 5) rfl (by rfl); go_simp) ?_
          (try simp only [Act.put, List.getElem_toArray, List.getElem_cons_succ, List.getElem_cons_zero, List.setIfInBounds_toArray, List.set_cons_zero, List.set_cons_succ])
          refine wpList_val (.bool true) (by rfl) (by have q := HW.out; go_simp) ?_
          (try simp only [Act.put, List.getElem_toArray, List.getElem_cons_succ, List.getElem_cons_zero, List.setIfInBounds_toArray, List.set_cons_zero, List.set_cons_succ])
          refine wpList_val (.bool true) (by rfl) (run_pick_yes (.tmp 109) (.tmp 112) (.const (.bool false)) _ rfl rfl rfl) ?_
          (try simp only [Act.put, List.getElem_toArray, List.getElem_cons_succ, List.getElem_cons_zero, List.setIfInBounds_toArray, List.set_cons_zero, List.set_cons_succ])
          refine wpList_val (.bool true) (by rfl) (by have q := HOP.out; go_simp) ?_
          (try simp only [Act.put, List.getElem_toArray, List.getElem_cons_succ, List.getElem_cons_zero, List.setIfInBounds_toArray, List.set_cons_zero, List.set_cons_succ])
          refine wpList_val (.bool true) (by rfl) (run_pick_yes (.tmp 104) (.tmp 114) (.const (.bool false)) _ rfl rfl rfl) ?_
          (try simp only [Act.put, List.getElem_toArray, List.getElem_cons_succ, List.getElem_cons_zero, List.setIfInBounds_toArray, List.set_cons_zero, List.set_cons_succ])
          refine wpList_val (.bool true) (by rfl) (by go_simp) ?_
          (try simp only [Act.put, List.getElem_toArray, List.getElem_cons_succ, List.getElem_cons_zero, List.setIfInBounds_toArray, List.set_cons_zero, List.set_cons_succ])
          refine wpList_nil ?_
          go_wp2_with fail
          go_ret
          exact ⟨ret_bool (rfl), K16.out.below⟩
  case pos =>
    have HP10 := Lib.hid hp
    clear hp
    have hi : ¬ x.p12 = 1 := fun e => HG2.out ⟨HP10.out, e⟩
    have HI := Lib.hid hi
    clear hi
    rcases bool_two x.p5 with h5 | h5
    case inl =>
      have H5 := Lib.hid h5
      clear h5
      have hB : desB x u v = true := by simp [desB, HP10.out, HI.out]
      have HB := Lib.hid hB
      clear hB
      have hed : edgeB x = false := by simp [edgeB, H5.out]
      have HED := Lib.hid hed
      clear hed
      have ha : an = true := by rw [HAN.out]; simp [assumeN, HB.out]
      subst ha
      have hq : Q = ⟨x.p0, x.p1, x.p2, x.p3, x.p4, x.p5, x.p6, x.p7, x.p8, false, 4, x.p11, 1, (v.r : Nat), (v.c : Nat), (v.b : Nat), (v.p : Nat), 0, 0, x.p19, x.p20⟩ := by rw [HQ.out]; unfold assumeP; rw [if_neg (by decide), if_neg (by decide), if_pos rfl]; simp [desP, desV, HB.out, HED.out, HP10.out]
      have HQQ := Lib.hid hq
      clear hq
      refine wp_region_lit ?_
      refine wpList_val (.int .i64 4) (by rfl) (by go_simp) ?_
      (try simp only [Act.put, List.getElem_toArray, List.getElem_cons_succ, List.getElem_cons_zero, List.setIfInBounds_toArray, List.set_cons_zero, List.set_cons_succ])
      refine wpList_val (.bool false) (by rfl) (by go_simp) ?_
      (try simp only [Act.put, List.getElem_toArray, List.getElem_cons_succ, List.getElem_cons_zero, List.setIfInBounds_toArray, List.set_cons_zero, List.set_cons_succ])
      refine wpList_val (.bool false) (by rfl) (by go_simp) ?_
      (try simp only [Act.put, List.getElem_toArray, List.getElem_cons_succ, List.getElem_cons_zero, List.setIfInBounds_toArray, List.set_cons_zero, List.set_cons_succ])
      refine wpList_val (.int .i64 4) (by rfl) (by go_simp) ?_
      (try simp only [Act.put, List.getElem_toArray, List.getElem_cons_succ, List.getElem_cons_zero, List.setIfInBounds_toArray, List.set_cons_zero, List.set_cons_succ])
      refine wpList_val (.bool false) (by rfl) (by go_simp) ?_
      (try simp only [Act.put, List.getElem_toArray, List.getElem_cons_succ, List.getElem_cons_zero, List.setIfInBounds_toArray, List.set_cons_zero, List.set_cons_succ])
      refine wpList_val (.bool false) (by rfl) (run_pick_no (.tmp 41) (.const (.bool true)) (.tmp 43) _ rfl rfl rfl) ?_
      (try simp only [Act.put, List.getElem_toArray, List.getElem_cons_succ, List.getElem_cons_zero, List.setIfInBounds_toArray, List.set_cons_zero, List.set_cons_succ])
      refine wpList_nil ?_
      go_upto_region 11 with fail
      refine wp_region_lit ?_
      refine wpList_val (.int .i64 4) (by rfl) (by go_simp) ?_
      (try simp only [Act.put, List.getElem_toArray, List.getElem_cons_succ, List.getElem_cons_zero, List.setIfInBounds_toArray, List.set_cons_zero, List.set_cons_succ])
      refine wpList_val (.bool false) (by rfl) (by go_simp) ?_
      (try simp only [Act.put, List.getElem_toArray, List.getElem_cons_succ, List.getElem_cons_zero, List.setIfInBounds_toArray, List.set_cons_zero, List.set_cons_succ])
      refine wpList_val (.bool false) (by rfl) (by go_simp) ?_
      (try simp only [Act.put, List.getElem_toArray, List.getElem_cons_succ, List.getElem_cons_zero, List.setIfInBounds_toArray, List.set_cons_zero, List.set_cons_succ])
      refine wpList_skip (by kernel_rfl) ?_
      (try simp only [Act.put, List.getElem_toArray, List.getElem_cons_succ, List.getElem_cons_zero, List.setIfInBounds_toArray, List.set_cons_zero, List.set_cons_succ])
      refine wpList_skip (by kernel_rfl) ?_
      (try simp only [Act.put, List.getElem_toArray, List.getElem_cons_succ, List.getElem_cons_zero, List.setIfInBounds_toArray, List.set_cons_zero, List.set_cons_succ])
      refine wpList_skip (by kernel_rfl) ?_
      (try simp only [Act.put, List.getElem_toArray, List.getElem_cons_succ, List.getElem_cons_zero, List.setIfInBounds_toArray, List.set_cons_zero, List.set_cons_succ])
      refine wpList_val (.bool false) (by rfl) (run_pick_no (.tmp 50) (.tmp 53) (.const (.bool false)) _ rfl rfl rfl) ?_
      (try simp only [Act.put, List.getElem_toArray, List.getElem_cons_succ, List.getElem_cons_zero, List.setIfInBounds_toArray, List.set_cons_zero, List.set_cons_succ])
      refine wpList_nil ?_
      go_upto_region 13 with fail
      refine wp_region_lit ?_
      refine wpList_val (.int .i64 4) (by rfl) (by go_simp) ?_
      (try simp only [Act.put, List.getElem_toArray, List.getElem_cons_succ, List.getElem_cons_zero, List.setIfInBounds_toArray, List.set_cons_zero, List.set_cons_succ])
      refine wpList_val (.bool true) (by rfl) (by go_simp) ?_
      (try simp only [Act.put, List.getElem_toArray, List.getElem_cons_succ, List.getElem_cons_zero, List.setIfInBounds_toArray, List.set_cons_zero, List.set_cons_succ])
      refine wpList_nil ?_
      go_upto_region 14 with fail
      refine wp_region_lit ?_
      refine wpList_val (.pointer (some ⟨b10, 10, none⟩)) (by rfl) (by go_simp) ?_
      (try simp only [Act.put, List.getElem_toArray, List.getElem_cons_succ, List.getElem_cons_zero, List.setIfInBounds_toArray, List.set_cons_zero, List.set_cons_succ])
      refine wpList_val (.int .i64 x.p10) (by rfl) (by have q : w12.cell? ⟨b10, 10, none⟩ = some (.int .i64 x.p10) := K12.out.cell (i := 5) rfl (by rfl); go_simp) ?_
      (try simp only [Act.put, List.getElem_toArray, List.getElem_cons_succ, List.getElem_cons_zero, List.setIfInBounds_toArray, List.set_cons_zero, List.set_cons_succ])
      refine wpList_val (.bool false) (by rfl) (by have q := HP10.out; go_simp) ?_
      (try simp only [Act.put, List.getElem_toArray, List.getElem_cons_succ, List.getElem_cons_zero, List.setIfInBounds_toArray, List.set_cons_zero, List.set_cons_succ])
      refine wpList_val (.bool false) (by rfl) (by go_simp) ?_
      (try simp only [Act.put, List.getElem_toArray, List.getElem_cons_succ, List.getElem_cons_zero, List.setIfInBounds_toArray, List.set_cons_zero, List.set_cons_succ])
      refine wpList_val (.pointer (some ⟨b10, 12, none⟩)) (by rfl) (by go_simp) ?_
      (try simp only [Act.put, List.getElem_toArray, List.getElem_cons_succ, List.getElem_cons_zero, List.setIfInBounds_toArray, List.set_cons_zero, List.set_cons_succ])
      refine wpList_val (.int .i64 x.p12) (by rfl) (by have q : w12.cell? ⟨b10, 12, none⟩ = some (.int .i64 x.p12) := K12.out.cell (i := 5) rfl (by rfl); go_simp) ?_
      (try simp only [Act.put, List.getElem_toArray, List.getElem_cons_succ, List.getElem_cons_zero, List.setIfInBounds_toArray, List.set_cons_zero, List.set_cons_succ])
      refine wpList_val (.bool true) (by rfl) (by have q := HI.out; go_simp) ?_
      (try simp only [Act.put, List.getElem_toArray, List.getElem_cons_succ, List.getElem_cons_zero, List.setIfInBounds_toArray, List.set_cons_zero, List.set_cons_succ])
      refine wpList_val (.bool true) (by rfl) (run_pick_no (.tmp 63) (.const (.bool true)) (.tmp 66) _ rfl rfl rfl) ?_
      (try simp only [Act.put, List.getElem_toArray, List.getElem_cons_succ, List.getElem_cons_zero, List.setIfInBounds_toArray, List.set_cons_zero, List.set_cons_succ])
      refine wpList_val (.bool true) (by rfl) (by go_simp) ?_
      (try simp only [Act.put, List.getElem_toArray, List.getElem_cons_succ, List.getElem_cons_zero, List.setIfInBounds_toArray, List.set_cons_zero, List.set_cons_succ])
      refine wpList_skip (by kernel_rfl) ?_
      (try simp only [Act.put, List.getElem_toArray, List.getElem_cons_succ, List.getElem_cons_zero, List.setIfInBounds_toArray, List.set_cons_zero, List.set_cons_succ])
      refine wpList_skip (by kernel_rfl) ?_
      (try simp only [Act.put, List.getElem_toArray, List.getElem_cons_succ, List.getElem_cons_zero, List.setIfInBounds_toArray, List.set_cons_zero, List.set_cons_succ])
      refine wpList_skip (by kernel_rfl) ?_
      (try simp only [Act.put, List.getElem_toArray, List.getElem_cons_succ, List.getElem_cons_zero, List.setIfInBounds_toArray, List.set_cons_zero, List.set_cons_succ])
      refine wpList_skip (by kernel_rfl) ?_
      (try simp only [Act.put, List.getElem_toArray, List.getElem_cons_succ, List.getElem_cons_zero, List.setIfInBounds_toArray, List.set_cons_zero, List.set_cons_succ])
      refine wpList_val (.bool true) (by rfl) (run_pick_yes (.tmp 68) (.const (.bool true)) (.tmp 72) _ rfl rfl rfl) ?_
      (try simp only [Act.put, List.getElem_toArray, List.getElem_cons_succ, List.getElem_cons_zero, List.setIfInBounds_toArray, List.set_cons_zero, List.set_cons_succ])
      refine wpList_val (.bool true) (by rfl) (by go_simp) ?_
      (try simp only [Act.put, List.getElem_toArray, List.getElem_cons_succ, List.getElem_cons_zero, List.setIfInBounds_toArray, List.set_cons_zero, List.set_cons_succ])
      refine wpList_nil ?_
      go_upto_region 15 with fail
      refine wp_region_lit ?_
      refine wpList_val (.bool true) (by rfl) (by go_simp) ?_
      (try simp only [Act.put, List.getElem_toArray, List.getElem_cons_succ, List.getElem_cons_zero, List.setIfInBounds_toArray, List.set_cons_zero, List.set_cons_succ])
      refine wpList_nil ?_
      go_upto_region 16 with fail
      refine wp_region_inv (I := fun L ac w' => ac = AsYb4 y rl t0 t1 t2 dl u v x Q op b1 b3x b3y b5 b8 b10 L ∧ Kb w [(b1, askA y rl t0 t1 t2 dl, 28), (b3x, vcA v, 35), (b3y, cfA ⟨0, 0, 0, dl, 0, 0⟩, 38), (b5, poA ⟨x.p0, x.p1, x.p2, x.p3, x.p4, x.p5, x.p6, x.p7, x.p8, (bif L 10 then false else x.p9), 4, x.p11, (bif L 2 then 1 else x.p12), (bif L 4 then (v.r : Nat) else (u.r : Nat)), (bif L 4 then (v.c : Nat) else (u.c : Nat)), (bif L 4 then (v.b : Nat) else (u.b : Nat)), (bif L 4 then (v.p : Nat) else (u.p : Nat)), (bif L 6 then 0 else x.p17), (bif L 8 then 0 else x.p18), x.p19, x.p20⟩, 42), (b8, poA Q, 42), (b10, poA ⟨x.p0, x.p1, x.p2, x.p3, x.p4, x.p5, x.p6, x.p7, x.p8, x.p9, x.p10, x.p11, x.p12, (u.r : Nat), (u.c : Nat), (u.b : Nat), (u.p : Nat), x.p17, x.p18, x.p19, x.p20⟩, 42)] w') (by kernel_rfl) (by kernel_rfl) ⟨by kernel_rfl, K12.out.drew⟩ ?_ ?_
      · intro i hi Lx ac w' hI hL haft
        obtain ⟨rfl, hw⟩ := hI
        match i, hi with
        | 0, _ =>
          have g4 : (AsYb4 y rl t0 t1 t2 dl u v x Q op b1 b3x b3y b5 b8 b10 Lx).tmps[4]?.getD undef = .pointer (some ⟨b3x, 0, none⟩) := by kernel_rfl
          have e4 : (AsYb4 y rl t0 t1 t2 dl u v x Q op b1 b3x b3y b5 b8 b10 Lx).eval (.tmp 4) = .pointer (some ⟨b3x, 0, none⟩) := by kernel_rfl
          exact i_val rfl (.agg (vcA v)) w' (by rfl) (kb_all hw 1 rfl 35 _ rfl e4 Try.underlying35 rfl (sizeV)) ⟨by kernel_rfl, hw⟩
        | 1, _ =>
          have g6 : (AsYb4 y rl t0 t1 t2 dl u v x Q op b1 b3x b3y b5 b8 b10 Lx).tmps[6]?.getD undef = .pointer (some ⟨b5, 0, none⟩) := by kernel_rfl
          have e6 : (AsYb4 y rl t0 t1 t2 dl u v x Q op b1 b3x b3y b5 b8 b10 Lx).eval (.tmp 6) = .pointer (some ⟨b5, 0, none⟩) := by kernel_rfl
          exact i_val rfl (.pointer (some ⟨b5, 12, none⟩)) w' (by rfl) (by go_simp) ⟨by kernel_rfl, hw⟩
        | 2, _ =>
          have h1 := haft 1 (by decide)
          have e76 : (AsYb4 y rl t0 t1 t2 dl u v x Q op b1 b3x b3y b5 b8 b10 Lx).eval (.tmp 76) = .pointer (some ⟨b5, 12, none⟩) := by show (bif Lx 1 then _ else _) = _; rw [h1]; rfl
          have g76 : (AsYb4 y rl t0 t1 t2 dl u v x Q op b1 b3x b3y b5 b8 b10 Lx).tmps[76]?.getD undef = .pointer (some ⟨b5, 12, none⟩) := by show (bif Lx 1 then _ else _) = _; rw [h1]; rfl
          exact i_wp rfl (by rfl) (wp_store_cell 3 _ _ rfl ⟨b5, 12, none⟩ (.int .i64 1) e76 rfl (kb_run_set hw (i := 3) rfl 3 12 (.int .i64 (bif Lx 2 then 1 else x.p12)) (.int .i64 1) (by rfl) (fun W h1 h2 => by go_simp)) ⟨by kernel_rfl, cast_blk (Kb.set (i := 3) hw rfl 12 (.int .i64 1)) (by rfl)⟩)
        | 3, _ =>
          have g6 : (AsYb4 y rl t0 t1 t2 dl u v x Q op b1 b3x b3y b5 b8 b10 Lx).tmps[6]?.getD undef = .pointer (some ⟨b5, 0, none⟩) := by kernel_rfl
          have e6 : (AsYb4 y rl t0 t1 t2 dl u v x Q op b1 b3x b3y b5 b8 b10 Lx).eval (.tmp 6) = .pointer (some ⟨b5, 0, none⟩) := by kernel_rfl
          exact i_val rfl (.pointer (some ⟨b5, 13, none⟩)) w' (by rfl) (by go_simp) ⟨by kernel_rfl, hw⟩
        | 4, _ =>
          have h0 := haft 0 (by decide)
          have e75 : (AsYb4 y rl t0 t1 t2 dl u v x Q op b1 b3x b3y b5 b8 b10 Lx).eval (.tmp 75) = .agg (vcA v) := by show (bif Lx 0 then _ else _) = _; rw [h0]; rfl
          have g75 : (AsYb4 y rl t0 t1 t2 dl u v x Q op b1 b3x b3y b5 b8 b10 Lx).tmps[75]?.getD undef = .agg (vcA v) := by show (bif Lx 0 then _ else _) = _; rw [h0]; rfl
          have h3 := haft 3 (by decide)
          have e77 : (AsYb4 y rl t0 t1 t2 dl u v x Q op b1 b3x b3y b5 b8 b10 Lx).eval (.tmp 77) = .pointer (some ⟨b5, 13, none⟩) := by show (bif Lx 3 then _ else _) = _; rw [h3]; rfl
          have g77 : (AsYb4 y rl t0 t1 t2 dl u v x Q op b1 b3x b3y b5 b8 b10 Lx).tmps[77]?.getD undef = .pointer (some ⟨b5, 13, none⟩) := by show (bif Lx 3 then _ else _) = _; rw [h3]; rfl
          exact i_wp rfl (by rfl) (wp_store_mid 35 _ _ rfl b5 13 (vcA v) e77 e75 ((Kb.at (i := 3) hw rfl).thereN 13 4 (Nat.le_of_ble_eq_true (by kernel_rfl))) (sizeV) (by kernel_rfl) ⟨by kernel_rfl, cast_blk (Kb.mid (i := 3) hw rfl 13 (vcA v).toList) (by rfl)⟩)
        | 5, _ =>
          have g6 : (AsYb4 y rl t0 t1 t2 dl u v x Q op b1 b3x b3y b5 b8 b10 Lx).tmps[6]?.getD undef = .pointer (some ⟨b5, 0, none⟩) := by kernel_rfl
          have e6 : (AsYb4 y rl t0 t1 t2 dl u v x Q op b1 b3x b3y b5 b8 b10 Lx).eval (.tmp 6) = .pointer (some ⟨b5, 0, none⟩) := by kernel_rfl
          exact i_val rfl (.pointer (some ⟨b5, 17, none⟩)) w' (by rfl) (by go_simp) ⟨by kernel_rfl, hw⟩
        | 6, _ =>
          have h5 := haft 5 (by decide)
          have e78 : (AsYb4 y rl t0 t1 t2 dl u v x Q op b1 b3x b3y b5 b8 b10 Lx).eval (.tmp 78) = .pointer (some ⟨b5, 17, none⟩) := by show (bif Lx 5 then _ else _) = _; rw [h5]; rfl
          have g78 : (AsYb4 y rl t0 t1 t2 dl u v x Q op b1 b3x b3y b5 b8 b10 Lx).tmps[78]?.getD undef = .pointer (some ⟨b5, 17, none⟩) := by show (bif Lx 5 then _ else _) = _; rw [h5]; rfl
          exact i_wp rfl (by rfl) (wp_store_cell 3 _ _ rfl ⟨b5, 17, none⟩ (.int .i64 0) e78 rfl (kb_run_set hw (i := 3) rfl 3 17 (.int .i64 (bif Lx 6 then 0 else x.p17)) (.int .i64 0) (by rfl) (fun W h1 h2 => by go_simp)) ⟨by kernel_rfl, cast_blk (Kb.set (i := 3) hw rfl 17 (.int .i64 0)) (by rfl)⟩)
        | 7, _ =>
          have g6 : (AsYb4 y rl t0 t1 t2 dl u v x Q op b1 b3x b3y b5 b8 b10 Lx).tmps[6]?.getD undef = .pointer (some ⟨b5, 0, none⟩) := by kernel_rfl
          have e6 : (AsYb4 y rl t0 t1 t2 dl u v x Q op b1 b3x b3y b5 b8 b10 Lx).eval (.tmp 6) = .pointer (some ⟨b5, 0, none⟩) := by kernel_rfl
          exact i_val rfl (.pointer (some ⟨b5, 18, none⟩)) w' (by rfl) (by go_simp) ⟨by kernel_rfl, hw⟩
        | 8, _ =>
          have h7 := haft 7 (by decide)
          have e79 : (AsYb4 y rl t0 t1 t2 dl u v x Q op b1 b3x b3y b5 b8 b10 Lx).eval (.tmp 79) = .pointer (some ⟨b5, 18, none⟩) := by show (bif Lx 7 then _ else _) = _; rw [h7]; rfl
          have g79 : (AsYb4 y rl t0 t1 t2 dl u v x Q op b1 b3x b3y b5 b8 b10 Lx).tmps[79]?.getD undef = .pointer (some ⟨b5, 18, none⟩) := by show (bif Lx 7 then _ else _) = _; rw [h7]; rfl
          exact i_wp rfl (by rfl) (wp_store_cell 3 _ _ rfl ⟨b5, 18, none⟩ (.int .i64 0) e79 rfl (kb_run_set hw (i := 3) rfl 3 18 (.int .i64 (bif Lx 8 then 0 else x.p18)) (.int .i64 0) (by rfl) (fun W h1 h2 => by go_simp)) ⟨by kernel_rfl, cast_blk (Kb.set (i := 3) hw rfl 18 (.int .i64 0)) (by rfl)⟩)
        | 9, _ =>
          have g6 : (AsYb4 y rl t0 t1 t2 dl u v x Q op b1 b3x b3y b5 b8 b10 Lx).tmps[6]?.getD undef = .pointer (some ⟨b5, 0, none⟩) := by kernel_rfl
          have e6 : (AsYb4 y rl t0 t1 t2 dl u v x Q op b1 b3x b3y b5 b8 b10 Lx).eval (.tmp 6) = .pointer (some ⟨b5, 0, none⟩) := by kernel_rfl
          exact i_val rfl (.pointer (some ⟨b5, 9, none⟩)) w' (by rfl) (by go_simp) ⟨by kernel_rfl, hw⟩
        | 10, _ =>
          have h9 := haft 9 (by decide)
          have e80 : (AsYb4 y rl t0 t1 t2 dl u v x Q op b1 b3x b3y b5 b8 b10 Lx).eval (.tmp 80) = .pointer (some ⟨b5, 9, none⟩) := by show (bif Lx 9 then _ else _) = _; rw [h9]; rfl
          have g80 : (AsYb4 y rl t0 t1 t2 dl u v x Q op b1 b3x b3y b5 b8 b10 Lx).tmps[80]?.getD undef = .pointer (some ⟨b5, 9, none⟩) := by show (bif Lx 9 then _ else _) = _; rw [h9]; rfl
          exact i_wp rfl (by rfl) (wp_store_cell 4 _ _ rfl ⟨b5, 9, none⟩ (.bool false) e80 rfl (kb_run_set hw (i := 3) rfl 4 9 (.bool (bif Lx 10 then false else x.p9)) (.bool false) (by rfl) (fun W h1 h2 => by go_simp)) ⟨by kernel_rfl, cast_blk (Kb.set (i := 3) hw rfl 9 (.bool false)) (by rfl)⟩)
        | k + 11, h =>
          exfalso
          have h2 : k + 11 < 11 := h
          omega
      intro Lx ac w13 hI hall
      obtain ⟨rfl, hw⟩ := hI
      have hfr : AsYb4 y rl t0 t1 t2 dl u v x Q op b1 b3x b3y b5 b8 b10 Lx = { tmps := #[.agg (askA y rl t0 t1 t2 dl), .pointer (some ⟨b1, 0, none⟩), .bool false, .int .i64 4, .pointer (some ⟨b3x, 0, none⟩), .pointer (some ⟨b3y, 0, none⟩), .pointer (some ⟨b5, 0, none⟩), .pointer (some ⟨b8, 0, none⟩), .bool true, .bool op, .pointer (some ⟨b10, 0, none⟩), .bool true, .bool true, .bool false, .pointer (some ⟨b1, 15, none⟩), .int .u8 (rl : Nat), .int .u8 (Int.tmod (rl : Nat) 5), .int .i64 4, .pointer (some ⟨b1, 16, none⟩), .agg (#[.int .u8 (t0 : Nat), .int .u8 (t1 : Nat), .int .u8 (t2 : Nat)]), .agg (vcA v), .pointer (some ⟨b1, 19, none⟩), .int .i64 dl, .agg (cfA ⟨0, 0, 0, dl, 0, 0⟩), .pointer (some ⟨b1, 0, none⟩), .agg (#[.bool y.f0, .bool y.f1, .bool y.f2, .bool y.f3, .bool y.f4, .int .u8 (y.n0 : Nat), .int .u8 (y.n1 : Nat), .int .u8 (y.n2 : Nat), .int .u8 (y.v0 : Nat), .int .u8 (y.v1 : Nat), .int .u8 (y.v2 : Nat), .int .i32 y.k0, .int .i32 y.k1, .int .i32 y.k2, .int .i32 y.k3]), .agg (poA ⟨x.p0, x.p1, x.p2, x.p3, x.p4, x.p5, x.p6, x.p7, x.p8, x.p9, x.p10, x.p11, x.p12, (u.r : Nat), (u.c : Nat), (u.b : Nat), (u.p : Nat), x.p17, x.p18, x.p19, x.p20⟩), .tuple #[.agg (poA Q), .bool true, .bool op], .agg (poA ⟨x.p0, x.p1, x.p2, x.p3, x.p4, x.p5, x.p6, x.p7, x.p8, x.p9, x.p10, x.p11, x.p12, (u.r : Nat), (u.c : Nat), (u.b : Nat), (u.p : Nat), x.p17, x.p18, x.p19, x.p20⟩), .int .i64 4, .agg (vcA v), .agg (cfA ⟨0, 0, 0, dl, 0, 0⟩), .tuple #[.agg (poA Q), .bool true, .bool op], .agg (poA Q), .bool true, .bool op, .agg (poA ⟨x.p0, x.p1, x.p2, x.p3, x.p4, x.p5, x.p6, x.p7, x.p8, x.p9, x.p10, x.p11, x.p12, (u.r : Nat), (u.c : Nat), (u.b : Nat), (u.p : Nat), x.p17, x.p18, x.p19, x.p20⟩), .int .i64 4, .pointer (some ⟨b5, 10, none⟩), .int .i64 4, .bool false, .bool false, .int .i64 4, .bool false, .bool false, undef, undef, undef, .int .i64 4, .bool false, .bool false, undef, undef, undef, .bool false, undef, undef, undef, .int .i64 4, .bool true, .pointer (some ⟨b10, 10, none⟩), .int .i64 x.p10, .bool false, .bool false, .pointer (some ⟨b10, 12, none⟩), .int .i64 x.p12, .bool true, .bool true, .bool true, undef, undef, undef, undef, .bool true, .bool true, .agg (vcA v), .pointer (some ⟨b5, 12, none⟩), .pointer (some ⟨b5, 13, none⟩), .pointer (some ⟨b5, 17, none⟩), .pointer (some ⟨b5, 18, none⟩), .pointer (some ⟨b5, 9, none⟩), undef, undef, undef, undef, undef, undef, undef, undef, undef, undef, undef, undef, undef, undef, undef, undef, undef, undef, undef, undef, undef, undef, undef, undef, undef, undef, undef, undef, undef, undef, undef, undef, undef, undef, undef], defers := [] } := by unfold AsYb4; simp only [hall 0 (by decide), hall 1 (by decide), hall 3 (by decide), hall 5 (by decide), hall 7 (by decide), hall 9 (by decide), cond_true]
      rw [hfr]
      clear hfr
      have hL2 := hall 2 (by decide)
      have hL4 := hall 4 (by decide)
      have hL6 := hall 6 (by decide)
      have hL8 := hall 8 (by decide)
      have hL10 := hall 10 (by decide)
      simp only [hL2, hL4, hL6, hL8, hL10, cond_true] at hw
      have K13 := Lib.hid (show Kb w [(b1, askA y rl t0 t1 t2 dl, 28), (b3x, vcA v, 35), (b3y, cfA ⟨0, 0, 0, dl, 0, 0⟩, 38), (b5, poA ⟨x.p0, x.p1, x.p2, x.p3, x.p4, x.p5, x.p6, x.p7, x.p8, false, 4, x.p11, 1, (v.r : Nat), (v.c : Nat), (v.b : Nat), (v.p : Nat), 0, 0, x.p19, x.p20⟩, 42), (b8, poA Q, 42), (b10, poA ⟨x.p0, x.p1, x.p2, x.p3, x.p4, x.p5, x.p6, x.p7, x.p8, x.p9, x.p10, x.p11, x.p12, (u.r : Nat), (u.c : Nat), (u.b : Nat), (u.p : Nat), x.p17, x.p18, x.p19, x.p20⟩, 42)] w13 from hw)
      clear hw hall hL2 hL4 hL6 hL8 hL10
      go_upto_region 17 with fail
      refine wp_region_lit ?_
      refine wpList_val (.pointer (some ⟨b10, 10, none⟩)) (by rfl) (by go_simp) ?_
      (try simp only [Act.put, List.getElem_toArray, List.getElem_cons_succ, List.getElem_cons_zero, List.setIfInBounds_toArray, List.set_cons_zero, List.set_cons_succ])
      refine wpList_val (.int .i64 x.p10) (by rfl) (by have q : w13.cell? ⟨b10, 10, none⟩ = some (.int .i64 x.p10) := K13.out.cell (i := 5) rfl (by rfl); go_simp) ?_
      (try simp only [Act.put, List.getElem_toArray, List.getElem_cons_succ, List.getElem_cons_zero, List.setIfInBounds_toArray, List.set_cons_zero, List.set_cons_succ])
      refine wpList_val (.bool false) (by rfl) (by have q := HP10.out; go_simp) ?_
      (try simp only [Act.put, List.getElem_toArray, List.getElem_cons_succ, List.getElem_cons_zero, List.setIfInBounds_toArray, List.set_cons_zero, List.set_cons_succ])
      refine wpList_nil ?_
      go_upto_region 19 with fail
      refine wp_region_lit ?_
      refine wpList_val (.pointer (some ⟨b10, 5, none⟩)) (by rfl) (by go_simp) ?_
      (try simp only [Act.put, List.getElem_toArray, List.getElem_cons_succ, List.getElem_cons_zero, List.setIfInBounds_toArray, List.set_cons_zero, List.set_cons_succ])
      refine wpList_val (.bool false) (by rfl) (by have q : w13.cell? ⟨b10, 5, none⟩ = some (.bool x.p5) := K13.out.cell (i := 5) rfl (by rfl); rw [H5.out] at q; go_simp) ?_
      (try simp only [Act.put, List.getElem_toArray, List.getElem_cons_succ, List.getElem_cons_zero, List.setIfInBounds_toArray, List.set_cons_zero, List.set_cons_succ])
      refine wpList_val (.bool false) (by rfl) (by go_simp) ?_
      (try simp only [Act.put, List.getElem_toArray, List.getElem_cons_succ, List.getElem_cons_zero, List.setIfInBounds_toArray, List.set_cons_zero, List.set_cons_succ])
      refine wpList_skip (by kernel_rfl) ?_
      (try simp only [Act.put, List.getElem_toArray, List.getElem_cons_succ, List.getElem_cons_zero, List.setIfInBounds_toArray, List.set_cons_zero, List.set_cons_succ])
      refine wpList_skip (by kernel_rfl) ?_
      (try simp only [Act.put, List.getElem_toArray, List.getElem_cons_succ, List.getElem_cons_zero, List.setIfInBounds_toArray, List.set_cons_zero, List.set_cons_succ])
      refine wpList_val (.bool false) (by rfl) (run_pick_no (.tmp 90) (.tmp 92) (.const (.bool false)) _ rfl rfl rfl) ?_
      (try simp only [Act.put, List.getElem_toArray, List.getElem_cons_succ, List.getElem_cons_zero, List.setIfInBounds_toArray, List.set_cons_zero, List.set_cons_succ])
      refine wpList_nil ?_
      go_upto_region 21 with fail
      have hop : op = (decide (x.p11 = (2 : Int)) && !decide (x.p11 = 2)) := by rw [HO.out, HQQ.out]; rfl
      by_cases hn2 : x.p11 = 2
      case pos =>
        have HW := Lib.hid hn2
        have HN := Lib.hid hn2
        clear hn2
        have HOP := Lib.hid (show op = false from by rw [hop]; simp [HN.out])
        clear hop
        refine wp_region_lit ?_
        refine wpList_val (.agg (poA Q)) (by rfl) (kb_all K13.out 4 rfl 42 _ rfl rfl Try.underlying42 rfl (size50)) ?_
        (try simp only [Act.put, List.getElem_toArray, List.getElem_cons_succ, List.getElem_cons_zero, List.setIfInBounds_toArray, List.set_cons_zero, List.set_cons_succ])
        refine wpList_val (.agg (poA ⟨x.p0, x.p1, x.p2, x.p3, x.p4, x.p5, x.p6, x.p7, x.p8, false, 4, x.p11, 1, (v.r : Nat), (v.c : Nat), (v.b : Nat), (v.p : Nat), 0, 0, x.p19, x.p20⟩)) (by rfl) (kb_all K13.out 3 rfl 42 _ rfl rfl Try.underlying42 rfl (size50)) ?_
        (try simp only [Act.put, List.getElem_toArray, List.getElem_cons_succ, List.getElem_cons_zero, List.setIfInBounds_toArray, List.set_cons_zero, List.set_cons_succ])
        refine wpList_val (.bool true) (by rfl) (by have q := eq_po2 (show Q = ⟨x.p0, x.p1, x.p2, x.p3, x.p4, x.p5, x.p6, x.p7, x.p8, false, 4, x.p11, 1, (v.r : Nat), (v.c : Nat), (v.b : Nat), (v.p : Nat), 0, 0, x.p19, x.p20⟩ from HQQ.out); go_simp) ?_
        (try simp only [Act.put, List.getElem_toArray, List.getElem_cons_succ, List.getElem_cons_zero, List.setIfInBounds_toArray, List.set_cons_zero, List.set_cons_succ])
        refine wpList_val (.bool true) (by rfl) (by go_simp) ?_
        (try simp only [Act.put, List.getElem_toArray, List.getElem_cons_succ, List.getElem_cons_zero, List.setIfInBounds_toArray, List.set_cons_zero, List.set_cons_succ])
        refine wpList_val (.bool true) (by rfl) (by go_simp) ?_
        (try simp only [Act.put, List.getElem_toArray, List.getElem_cons_succ, List.getElem_cons_zero, List.setIfInBounds_toArray, List.set_cons_zero, List.set_cons_succ])
        refine wpList_val (.bool true) (by rfl) (by go_simp) ?_
        (try simp only [Act.put, List.getElem_toArray, List.getElem_cons_succ, List.getElem_cons_zero, List.setIfInBounds_toArray, List.set_cons_zero, List.set_cons_succ])
        refine wpList_val (.bool true) (by rfl) (by go_simp) ?_
        (try simp only [Act.put, List.getElem_toArray, List.getElem_cons_succ, List.getElem_cons_zero, List.setIfInBounds_toArray, List.set_cons_zero, List.set_cons_succ])
        refine wpList_val (.bool true) (by rfl) (run_pick_yes (.tmp 99) (.tmp 102) (.const (.bool false)) _ rfl rfl rfl) ?_
        (try simp only [Act.put, List.getElem_toArray, List.getElem_cons_succ, List.getElem_cons_zero, List.setIfInBounds_toArray, List.set_cons_zero, List.set_cons_succ])
        refine wpList_val (.bool true) (by rfl) (by go_simp) ?_
        (try simp only [Act.put, List.getElem_toArray, List.getElem_cons_succ, List.getElem_cons_zero, List.setIfInBounds_toArray, List.set_cons_zero, List.set_cons_succ])
        refine wpList_val (.bool op) (by rfl) (by go_simp) ?_
        (try simp only [Act.put, List.getElem_toArray, List.getElem_cons_succ, List.getElem_cons_zero, List.setIfInBounds_toArray, List.set_cons_zero, List.set_cons_succ])
        refine wpList_val (.pointer (some ⟨b5, 11, none⟩)) (by rfl) (by go_simp) ?_
        (try simp only [Act.put, List.getElem_toArray, List.getElem_cons_succ, List.getElem_cons_zero, List.setIfInBounds_toArray, List.set_cons_zero, List.set_cons_succ])
        refine wpList_val (.int .i64 x.p11) (by rfl) (by have q : w13.cell? ⟨b5, 11, none⟩ = some (.int .i64 x.p11) := K13.out.cell (i := 3) rfl (by rfl); go_simp) ?_
        (try simp only [Act.put, List.getElem_toArray, List.getElem_cons_succ, List.getElem_cons_zero, List.setIfInBounds_toArray, List.set_cons_zero, List.set_cons_succ])
        refine wpList_val (.bool true) (by rfl) (by have q := HN.out; go_simp) ?_
        (try simp only [Act.put, List.getElem_toArray, List.getElem_cons_succ, List.getElem_cons_zero, List.setIfInBounds_toArray, List.set_cons_zero, List.set_cons_succ])
        refine wpList_val (.bool true) (by rfl) (by go_simp) ?_
        (try simp only [Act.put, List.getElem_toArray, List.getElem_cons_succ, List.getElem_cons_zero, List.setIfInBounds_toArray, List.set_cons_zero, List.set_cons_succ])
        refine wpList_val (.pointer (some ⟨b10, 11, none⟩)) (by rfl) (by go_simp) ?_
        (try simp only [Act.put, List.getElem_toArray, List.getElem_cons_succ, List.getElem_cons_zero, List.setIfInBounds_toArray, List.set_cons_zero, List.set_cons_succ])
        refine wpList_val (.int .i64 x.p11) (by rfl) (by have q : w13.cell? ⟨b10, 11, none⟩ = some (.int .i64 x.p11) := K13.out.cell (i := 5) rfl (by rfl); go_simp) ?_
        (try simp only [Act.put, List.getElem_toArray, List.getElem_cons_succ, List.getElem_cons_zero, List.setIfInBounds_toArray, List.set_cons_zero, List.set_cons_succ])
        refine wpList_val (.bool false) (by rfl) (by have q := HW.out; go_simp) ?_
        (try simp only [Act.put, List.getElem_toArray, List.getElem_cons_succ, List.getElem_cons_zero, List.setIfInBounds_toArray, List.set_cons_zero, List.set_cons_succ])
        refine wpList_val (.bool false) (by rfl) (run_pick_yes (.tmp 109) (.tmp 112) (.const (.bool false)) _ rfl rfl rfl) ?_
        (try simp only [Act.put, List.getElem_toArray, List.getElem_cons_succ, List.getElem_cons_zero, List.setIfInBounds_toArray, List.set_cons_zero, List.set_cons_succ])
        refine wpList_val (.bool true) (by rfl) (by have q := HOP.out; go_simp) ?_
        (try simp only [Act.put, List.getElem_toArray, List.getElem_cons_succ, List.getElem_cons_zero, List.setIfInBounds_toArray, List.set_cons_zero, List.set_cons_succ])
        refine wpList_val (.bool true) (by rfl) (run_pick_yes (.tmp 104) (.tmp 114) (.const (.bool false)) _ rfl rfl rfl) ?_
        (try simp only [Act.put, List.getElem_toArray, List.getElem_cons_succ, List.getElem_cons_zero, List.setIfInBounds_toArray, List.set_cons_zero, List.set_cons_succ])
        refine wpList_val (.bool true) (by rfl) (by go_simp) ?_
        (try simp only [Act.put, List.getElem_toArray, List.getElem_cons_succ, List.getElem_cons_zero, List.setIfInBounds_toArray, List.set_cons_zero, List.set_cons_succ])
        refine wpList_nil ?_
        go_wp2_with fail
        go_ret
        exact ⟨ret_bool (rfl), K13.out.below⟩
      case neg =>
        have HN := Lib.hid hn2
        clear hn2
        have HOP := Lib.hid (show op = false from by rw [hop]; simp [HN.out])
        clear hop
        refine wp_region_lit ?_
        refine wpList_val (.agg (poA Q)) (by rfl) (kb_all K13.out 4 rfl 42 _ rfl rfl Try.underlying42 rfl (size50)) ?_
        (try simp only [Act.put, List.getElem_toArray, List.getElem_cons_succ, List.getElem_cons_zero, List.setIfInBounds_toArray, List.set_cons_zero, List.set_cons_succ])
        refine wpList_val (.agg (poA ⟨x.p0, x.p1, x.p2, x.p3, x.p4, x.p5, x.p6, x.p7, x.p8, false, 4, x.p11, 1, (v.r : Nat), (v.c : Nat), (v.b : Nat), (v.p : Nat), 0, 0, x.p19, x.p20⟩)) (by rfl) (kb_all K13.out 3 rfl 42 _ rfl rfl Try.underlying42 rfl (size50)) ?_
        (try simp only [Act.put, List.getElem_toArray, List.getElem_cons_succ, List.getElem_cons_zero, List.setIfInBounds_toArray, List.set_cons_zero, List.set_cons_succ])
        refine wpList_val (.bool true) (by rfl) (by have q := eq_po2 (show Q = ⟨x.p0, x.p1, x.p2, x.p3, x.p4, x.p5, x.p6, x.p7, x.p8, false, 4, x.p11, 1, (v.r : Nat), (v.c : Nat), (v.b : Nat), (v.p : Nat), 0, 0, x.p19, x.p20⟩ from HQQ.out); go_simp) ?_
        (try simp only [Act.put, List.getElem_toArray, List.getElem_cons_succ, List.getElem_cons_zero, List.setIfInBounds_toArray, List.set_cons_zero, List.set_cons_succ])
        refine wpList_val (.bool true) (by rfl) (by go_simp) ?_
        (try simp only [Act.put, List.getElem_toArray, List.getElem_cons_succ, List.getElem_cons_zero, List.setIfInBounds_toArray, List.set_cons_zero, List.set_cons_succ])
        refine wpList_val (.bool true) (by rfl) (by go_simp) ?_
        (try simp only [Act.put, List.getElem_toArray, List.getElem_cons_succ, List.getElem_cons_zero, List.setIfInBounds_toArray, List.set_cons_zero, List.set_cons_succ])
        refine wpList_val (.bool true) (by rfl) (by go_simp) ?_
        (try simp only [Act.put, List.getElem_toArray, List.getElem_cons_succ, List.getElem_cons_zero, List.setIfInBounds_toArray, List.set_cons_zero, List.set_cons_succ])
        refine wpList_val (.bool true) (by rfl) (by go_simp) ?_
        (try simp only [Act.put, List.getElem_toArray, List.getElem_cons_succ, List.getElem_cons_zero, List.setIfInBounds_toArray, List.set_cons_zero, List.set_cons_succ])
        refine wpList_val (.bool true) (by rfl) (run_pick_yes (.tmp 99) (.tmp 102) (.const (.bool false)) _ rfl rfl rfl) ?_
        (try simp only [Act.put, List.getElem_toArray, List.getElem_cons_succ, List.getElem_cons_zero, List.setIfInBounds_toArray, List.set_cons_zero, List.set_cons_succ])
        refine wpList_val (.bool true) (by rfl) (by go_simp) ?_
        (try simp only [Act.put, List.getElem_toArray, List.getElem_cons_succ, List.getElem_cons_zero, List.setIfInBounds_toArray, List.set_cons_zero, List.set_cons_succ])
        refine wpList_val (.bool op) (by rfl) (by go_simp) ?_
        (try simp only [Act.put, List.getElem_toArray, List.getElem_cons_succ, List.getElem_cons_zero, List.setIfInBounds_toArray, List.set_cons_zero, List.set_cons_succ])
        refine wpList_val (.pointer (some ⟨b5, 11, none⟩)) (by rfl) (by go_simp) ?_
        (try simp only [Act.put, List.getElem_toArray, List.getElem_cons_succ, List.getElem_cons_zero, List.setIfInBounds_toArray, List.set_cons_zero, List.set_cons_succ])
        refine wpList_val (.int .i64 x.p11) (by rfl) (by have q : w13.cell? ⟨b5, 11, none⟩ = some (.int .i64 x.p11) := K13.out.cell (i := 3) rfl (by rfl); go_simp) ?_
        (try simp only [Act.put, List.getElem_toArray, List.getElem_cons_succ, List.getElem_cons_zero, List.setIfInBounds_toArray, List.set_cons_zero, List.set_cons_succ])
        refine wpList_val (.bool false) (by rfl) (by have q := HN.out; go_simp) ?_
        (try simp only [Act.put, List.getElem_toArray, List.getElem_cons_succ, List.getElem_cons_zero, List.setIfInBounds_toArray, List.set_cons_zero, List.set_cons_succ])
        refine wpList_val (.bool false) (by rfl) (by go_simp) ?_
        (try simp only [Act.put, List.getElem_toArray, List.getElem_cons_succ, List.getElem_cons_zero, List.setIfInBounds_toArray, List.set_cons_zero, List.set_cons_succ])
        refine wpList_skip (by kernel_rfl) ?_
        (try simp only [Act.put, List.getElem_toArray, List.getElem_cons_succ, List.getElem_cons_zero, List.setIfInBounds_toArray, List.set_cons_zero, List.set_cons_succ])
        refine wpList_skip (by kernel_rfl) ?_
        (try simp only [Act.put, List.getElem_toArray, List.getElem_cons_succ, List.getElem_cons_zero, List.setIfInBounds_toArray, List.set_cons_zero, List.set_cons_succ])
        refine wpList_skip (by kernel_rfl) ?_
        (try simp only [Act.put, List.getElem_toArray, List.getElem_cons_succ, List.getElem_cons_zero, List.setIfInBounds_toArray, List.set_cons_zero, List.set_cons_succ])
        refine wpList_val (.bool false) (by rfl) (run_pick_no (.tmp 109) (.tmp 112) (.const (.bool false)) _ rfl rfl rfl) ?_
        (try simp only [Act.put, List.getElem_toArray, List.getElem_cons_succ, List.getElem_cons_zero, List.setIfInBounds_toArray, List.set_cons_zero, List.set_cons_succ])
        refine wpList_val (.bool true) (by rfl) (by have q := HOP.out; go_simp) ?_
        (try simp only [Act.put, List.getElem_toArray, List.getElem_cons_succ, List.getElem_cons_zero, List.setIfInBounds_toArray, List.set_cons_zero, List.set_cons_succ])
        refine wpList_val (.bool true) (by rfl) (run_pick_yes (.tmp 104) (.tmp 114) (.const (.bool false)) _ rfl rfl rfl) ?_
        (try simp only [Act.put, List.getElem_toArray, List.getElem_cons_succ, List.getElem_cons_zero, List.setIfInBounds_toArray, List.set_cons_zero, List.set_cons_succ])
        refine wpList_val (.bool true) (by rfl) (by go_simp) ?_
        (try simp only [Act.put, List.getElem_toArray, List.getElem_cons_succ, List.getElem_cons_zero, List.setIfInBounds_toArray, List.set_cons_zero, List.set_cons_succ])
        refine wpList_nil ?_
        go_wp2_with fail
        go_ret
        exact ⟨ret_bool (rfl), K13.out.below⟩
    case inr =>
      have H5 := Lib.hid h5
      clear h5
      rcases bool_two x.p8 with h8 | h8
      case inl =>
        have H8 := Lib.hid h8
        clear h8
        have hB : desB x u v = true := by simp [desB, HP10.out, HI.out]
        have HB := Lib.hid hB
        clear hB
        have hed : edgeB x = false := by simp [edgeB, H5.out, H8.out]
        have HED := Lib.hid hed
        clear hed
        have ha : an = true := by rw [HAN.out]; simp [assumeN, HB.out]
        subst ha
        have hq : Q = ⟨x.p0, x.p1, x.p2, x.p3, x.p4, x.p5, x.p6, x.p7, x.p8, false, 4, x.p11, 1, (v.r : Nat), (v.c : Nat), (v.b : Nat), (v.p : Nat), 0, 0, x.p19, x.p20⟩ := by rw [HQ.out]; unfold assumeP; rw [if_neg (by decide), if_neg (by decide), if_pos rfl]; simp [desP, desV, HB.out, HED.out, HP10.out]
        have HQQ := Lib.hid hq
        clear hq
        refine wp_region_lit ?_
        refine wpList_val (.int .i64 4) (by rfl) (by go_simp) ?_
        (try simp only [Act.put, List.getElem_toArray, List.getElem_cons_succ, List.getElem_cons_zero, List.setIfInBounds_toArray, List.set_cons_zero, List.set_cons_succ])
        refine wpList_val (.bool false) (by rfl) (by go_simp) ?_
        (try simp only [Act.put, List.getElem_toArray, List.getElem_cons_succ, List.getElem_cons_zero, List.setIfInBounds_toArray, List.set_cons_zero, List.set_cons_succ])
        refine wpList_val (.bool false) (by rfl) (by go_simp) ?_
        (try simp only [Act.put, List.getElem_toArray, List.getElem_cons_succ, List.getElem_cons_zero, List.setIfInBounds_toArray, List.set_cons_zero, List.set_cons_succ])
        refine wpList_val (.int .i64 4) (by rfl) (by go_simp) ?_
        (try simp only [Act.put, List.getElem_toArray, List.getElem_cons_succ, List.getElem_cons_zero, List.setIfInBounds_toArray, List.set_cons_zero, List.set_cons_succ])
        refine wpList_val (.bool false) (by rfl) (by go_simp) ?_
        (try simp only [Act.put, List.getElem_toArray, List.getElem_cons_succ, List.getElem_cons_zero, List.setIfInBounds_toArray, List.set_cons_zero, List.set_cons_succ])
        refine wpList_val (.bool false) (by rfl) (run_pick_no (.tmp 41) (.const (.bool true)) (.tmp 43) _ rfl rfl rfl) ?_
        (try simp only [Act.put, List.getElem_toArray, List.getElem_cons_succ, List.getElem_cons_zero, List.setIfInBounds_toArray, List.set_cons_zero, List.set_cons_succ])
        refine wpList_nil ?_
        go_upto_region 11 with fail
        refine wp_region_lit ?_
        refine wpList_val (.int .i64 4) (by rfl) (by go_simp) ?_
        (try simp only [Act.put, List.getElem_toArray, List.getElem_cons_succ, List.getElem_cons_zero, List.setIfInBounds_toArray, List.set_cons_zero, List.set_cons_succ])
        refine wpList_val (.bool false) (by rfl) (by go_simp) ?_
        (try simp only [Act.put, List.getElem_toArray, List.getElem_cons_succ, List.getElem_cons_zero, List.setIfInBounds_toArray, List.set_cons_zero, List.set_cons_succ])
        refine wpList_val (.bool false) (by rfl) (by go_simp) ?_
        (try simp only [Act.put, List.getElem_toArray, List.getElem_cons_succ, List.getElem_cons_zero, List.setIfInBounds_toArray, List.set_cons_zero, List.set_cons_succ])
        refine wpList_skip (by kernel_rfl) ?_
        (try simp only [Act.put, List.getElem_toArray, List.getElem_cons_succ, List.getElem_cons_zero, List.setIfInBounds_toArray, List.set_cons_zero, List.set_cons_succ])
        refine wpList_skip (by kernel_rfl) ?_
        (try simp only [Act.put, List.getElem_toArray, List.getElem_cons_succ, List.getElem_cons_zero, List.setIfInBounds_toArray, List.set_cons_zero, List.set_cons_succ])
        refine wpList_skip (by kernel_rfl) ?_
        (try simp only [Act.put, List.getElem_toArray, List.getElem_cons_succ, List.getElem_cons_zero, List.setIfInBounds_toArray, List.set_cons_zero, List.set_cons_succ])
        refine wpList_val (.bool false) (by rfl) (run_pick_no (.tmp 50) (.tmp 53) (.const (.bool false)) _ rfl rfl rfl) ?_
        (try simp only [Act.put, List.getElem_toArray, List.getElem_cons_succ, List.getElem_cons_zero, List.setIfInBounds_toArray, List.set_cons_zero, List.set_cons_succ])
        refine wpList_nil ?_
        go_upto_region 13 with fail
        refine wp_region_lit ?_
        refine wpList_val (.int .i64 4) (by rfl) (by go_simp) ?_
        (try simp only [Act.put, List.getElem_toArray, List.getElem_cons_succ, List.getElem_cons_zero, List.setIfInBounds_toArray, List.set_cons_zero, List.set_cons_succ])
        refine wpList_val (.bool true) (by rfl) (by go_simp) ?_
        (try simp only [Act.put, List.getElem_toArray, List.getElem_cons_succ, List.getElem_cons_zero, List.setIfInBounds_toArray, List.set_cons_zero, List.set_cons_succ])
        refine wpList_nil ?_
        go_upto_region 14 with fail
        refine wp_region_lit ?_
        refine wpList_val (.pointer (some ⟨b10, 10, none⟩)) (by rfl) (by go_simp) ?_
        (try simp only [Act.put, List.getElem_toArray, List.getElem_cons_succ, List.getElem_cons_zero, List.setIfInBounds_toArray, List.set_cons_zero, List.set_cons_succ])
        refine wpList_val (.int .i64 x.p10) (by rfl) (by have q : w12.cell? ⟨b10, 10, none⟩ = some (.int .i64 x.p10) := K12.out.cell (i := 5) rfl (by rfl); go_simp) ?_
        (try simp only [Act.put, List.getElem_toArray, List.getElem_cons_succ, List.getElem_cons_zero, List.setIfInBounds_toArray, List.set_cons_zero, List.set_cons_succ])
        refine wpList_val (.bool false) (by rfl) (by have q := HP10.out; go_simp) ?_
        (try simp only [Act.put, List.getElem_toArray, List.getElem_cons_succ, List.getElem_cons_zero, List.setIfInBounds_toArray, List.set_cons_zero, List.set_cons_succ])
        refine wpList_val (.bool false) (by rfl) (by go_simp) ?_
        (try simp only [Act.put, List.getElem_toArray, List.getElem_cons_succ, List.getElem_cons_zero, List.setIfInBounds_toArray, List.set_cons_zero, List.set_cons_succ])
        refine wpList_val (.pointer (some ⟨b10, 12, none⟩)) (by rfl) (by go_simp) ?_
        (try simp only [Act.put, List.getElem_toArray, List.getElem_cons_succ, List.getElem_cons_zero, List.setIfInBounds_toArray, List.set_cons_zero, List.set_cons_succ])
        refine wpList_val (.int .i64 x.p12) (by rfl) (by have q : w12.cell? ⟨b10, 12, none⟩ = some (.int .i64 x.p12) := K12.out.cell (i := 5) rfl (by rfl); go_simp) ?_
        (try simp only [Act.put, List.getElem_toArray, List.getElem_cons_succ, List.getElem_cons_zero, List.setIfInBounds_toArray, List.set_cons_zero, List.set_cons_succ])
        refine wpList_val (.bool true) (by rfl) (by have q := HI.out; go_simp) ?_
        (try simp only [Act.put, List.getElem_toArray, List.getElem_cons_succ, List.getElem_cons_zero, List.setIfInBounds_toArray, List.set_cons_zero, List.set_cons_succ])
        refine wpList_val (.bool true) (by rfl) (run_pick_no (.tmp 63) (.const (.bool true)) (.tmp 66) _ rfl rfl rfl) ?_
        (try simp only [Act.put, List.getElem_toArray, List.getElem_cons_succ, List.getElem_cons_zero, List.setIfInBounds_toArray, List.set_cons_zero, List.set_cons_succ])
        refine wpList_val (.bool true) (by rfl) (by go_simp) ?_
        (try simp only [Act.put, List.getElem_toArray, List.getElem_cons_succ, List.getElem_cons_zero, List.setIfInBounds_toArray, List.set_cons_zero, List.set_cons_succ])
        refine wpList_skip (by kernel_rfl) ?_
        (try simp only [Act.put, List.getElem_toArray, List.getElem_cons_succ, List.getElem_cons_zero, List.setIfInBounds_toArray, List.set_cons_zero, List.set_cons_succ])
        refine wpList_skip (by kernel_rfl) ?_
        (try simp only [Act.put, List.getElem_toArray, List.getElem_cons_succ, List.getElem_cons_zero, List.setIfInBounds_toArray, List.set_cons_zero, List.set_cons_succ])
        refine wpList_skip (by kernel_rfl) ?_
        (try simp only [Act.put, List.getElem_toArray, List.getElem_cons_succ, List.getElem_cons_zero, List.setIfInBounds_toArray, List.set_cons_zero, List.set_cons_succ])
        refine wpList_skip (by kernel_rfl) ?_
        (try simp only [Act.put, List.getElem_toArray, List.getElem_cons_succ, List.getElem_cons_zero, List.setIfInBounds_toArray, List.set_cons_zero, List.set_cons_succ])
        refine wpList_val (.bool true) (by rfl) (run_pick_yes (.tmp 68) (.const (.bool true)) (.tmp 72) _ rfl rfl rfl) ?_
        (try simp only [Act.put, List.getElem_toArray, List.getElem_cons_succ, List.getElem_cons_zero, List.setIfInBounds_toArray, List.set_cons_zero, List.set_cons_succ])
        refine wpList_val (.bool true) (by rfl) (by go_simp) ?_
        (try simp only [Act.put, List.getElem_toArray, List.getElem_cons_succ, List.getElem_cons_zero, List.setIfInBounds_toArray, List.set_cons_zero, List.set_cons_succ])
        refine wpList_nil ?_
        go_upto_region 15 with fail
        refine wp_region_lit ?_
        refine wpList_val (.bool true) (by rfl) (by go_simp) ?_
        (try simp only [Act.put, List.getElem_toArray, List.getElem_cons_succ, List.getElem_cons_zero, List.setIfInBounds_toArray, List.set_cons_zero, List.set_cons_succ])
        refine wpList_nil ?_
        go_upto_region 16 with fail
        refine wp_region_inv (I := fun L ac w' => ac = AsYb5 y rl t0 t1 t2 dl u v x Q op b1 b3x b3y b5 b8 b10 L ∧ Kb w [(b1, askA y rl t0 t1 t2 dl, 28), (b3x, vcA v, 35), (b3y, cfA ⟨0, 0, 0, dl, 0, 0⟩, 38), (b5, poA ⟨x.p0, x.p1, x.p2, x.p3, x.p4, x.p5, x.p6, x.p7, x.p8, (bif L 10 then false else x.p9), 4, x.p11, (bif L 2 then 1 else x.p12), (bif L 4 then (v.r : Nat) else (u.r : Nat)), (bif L 4 then (v.c : Nat) else (u.c : Nat)), (bif L 4 then (v.b : Nat) else (u.b : Nat)), (bif L 4 then (v.p : Nat) else (u.p : Nat)), (bif L 6 then 0 else x.p17), (bif L 8 then 0 else x.p18), x.p19, x.p20⟩, 42), (b8, poA Q, 42), (b10, poA ⟨x.p0, x.p1, x.p2, x.p3, x.p4, x.p5, x.p6, x.p7, x.p8, x.p9, x.p10, x.p11, x.p12, (u.r : Nat), (u.c : Nat), (u.b : Nat), (u.p : Nat), x.p17, x.p18, x.p19, x.p20⟩, 42)] w') (by kernel_rfl) (by kernel_rfl) ⟨by kernel_rfl, K12.out.drew⟩ ?_ ?_
        · intro i hi Lx ac w' hI hL haft
          obtain ⟨rfl, hw⟩ := hI
          match i, hi with
          | 0, _ =>
            have g4 : (AsYb5 y rl t0 t1 t2 dl u v x Q op b1 b3x b3y b5 b8 b10 Lx).tmps[4]?.getD undef = .pointer (some ⟨b3x, 0, none⟩) := by kernel_rfl
            have e4 : (AsYb5 y rl t0 t1 t2 dl u v x Q op b1 b3x b3y b5 b8 b10 Lx).eval (.tmp 4) = .pointer (some ⟨b3x, 0, none⟩) := by kernel_rfl
            exact i_val rfl (.agg (vcA v)) w' (by rfl) (kb_all hw 1 rfl 35 _ rfl e4 Try.underlying35 rfl (sizeV)) ⟨by kernel_rfl, hw⟩
          | 1, _ =>
            have g6 : (AsYb5 y rl t0 t1 t2 dl u v x Q op b1 b3x b3y b5 b8 b10 Lx).tmps[6]?.getD undef = .pointer (some ⟨b5, 0, none⟩) := by kernel_rfl
            have e6 : (AsYb5 y rl t0 t1 t2 dl u v x Q op b1 b3x b3y b5 b8 b10 Lx).eval (.tmp 6) = .pointer (some ⟨b5, 0, none⟩) := by kernel_rfl
            exact i_val rfl (.pointer (some ⟨b5, 12, none⟩)) w' (by rfl) (by go_simp) ⟨by kernel_rfl, hw⟩
          | 2, _ =>
            have h1 := haft 1 (by decide)
            have e76 : (AsYb5 y rl t0 t1 t2 dl u v x Q op b1 b3x b3y b5 b8 b10 Lx).eval (.tmp 76) = .pointer (some ⟨b5, 12, none⟩) := by show (bif Lx 1 then _ else _) = _; rw [h1]; rfl
            have g76 : (AsYb5 y rl t0 t1 t2 dl u v x Q op b1 b3x b3y b5 b8 b10 Lx).tmps[76]?.getD undef = .pointer (some ⟨b5, 12, none⟩) := by show (bif Lx 1 then _ else _) = _; rw [h1]; rfl
            exact i_wp rfl (by rfl) (wp_store_cell 3 _ _ rfl ⟨b5, 12, none⟩ (.int .i64 1) e76 rfl (kb_run_set hw (i := 3) rfl 3 12 (.int .i64 (bif Lx 2 then 1 else x.p12)) (.int .i64 1) (by rfl) (fun W h1 h2 => by go_simp)) ⟨by kernel_rfl, cast_blk (Kb.set (i := 3) hw rfl 12 (.int .i64 1)) (by rfl)⟩)
          | 3, _ =>
            have g6 : (AsYb5 y rl t0 t1 t2 dl u v x Q op b1 b3x b3y b5 b8 b10 Lx).tmps[6]?.getD undef = .pointer (some ⟨b5, 0, none⟩) := by kernel_rfl
            have e6 : (AsYb5 y rl t0 t1 t2 dl u v x Q op b1 b3x b3y b5 b8 b10 Lx).eval (.tmp 6) = .pointer (some ⟨b5, 0, none⟩) := by kernel_rfl
            exact i_val rfl (.pointer (some ⟨b5, 13, none⟩)) w' (by rfl) (by go_simp) ⟨by kernel_rfl, hw⟩
          | 4, _ =>
            have h0 := haft 0 (by decide)
            have e75 : (AsYb5 y rl t0 t1 t2 dl u v x Q op b1 b3x b3y b5 b8 b10 Lx).eval (.tmp 75) = .agg (vcA v) := by show (bif Lx 0 then _ else _) = _; rw [h0]; rfl
            have g75 : (AsYb5 y rl t0 t1 t2 dl u v x Q op b1 b3x b3y b5 b8 b10 Lx).tmps[75]?.getD undef = .agg (vcA v) := by show (bif Lx 0 then _ else _) = _; rw [h0]; rfl
            have h3 := haft 3 (by decide)
            have e77 : (AsYb5 y rl t0 t1 t2 dl u v x Q op b1 b3x b3y b5 b8 b10 Lx).eval (.tmp 77) = .pointer (some ⟨b5, 13, none⟩) := by show (bif Lx 3 then _ else _) = _; rw [h3]; rfl
            have g77 : (AsYb5 y rl t0 t1 t2 dl u v x Q op b1 b3x b3y b5 b8 b10 Lx).tmps[77]?.getD undef = .pointer (some ⟨b5, 13, none⟩) := by show (bif Lx 3 then _ else _) = _; rw [h3]; rfl
            exact i_wp rfl (by rfl) (wp_store_mid 35 _ _ rfl b5 13 (vcA v) e77 e75 ((Kb.at (i := 3) hw rfl).thereN 13 4 (Nat.le_of_ble_eq_true (by kernel_rfl))) (sizeV) (by kernel_rfl) ⟨by kernel_rfl, cast_blk (Kb.mid (i := 3) hw rfl 13 (vcA v).toList) (by rfl)⟩)
          | 5, _ =>
            have g6 : (AsYb5 y rl t0 t1 t2 dl u v x Q op b1 b3x b3y b5 b8 b10 Lx).tmps[6]?.getD undef = .pointer (some ⟨b5, 0, none⟩) := by kernel_rfl
            have e6 : (AsYb5 y rl t0 t1 t2 dl u v x Q op b1 b3x b3y b5 b8 b10 Lx).eval (.tmp 6) = .pointer (some ⟨b5, 0, none⟩) := by kernel_rfl
            exact i_val rfl (.pointer (some ⟨b5, 17, none⟩)) w' (by rfl) (by go_simp) ⟨by kernel_rfl, hw⟩
          | 6, _ =>
            have h5 := haft 5 (by decide)
            have e78 : (AsYb5 y rl t0 t1 t2 dl u v x Q op b1 b3x b3y b5 b8 b10 Lx).eval (.tmp 78) = .pointer (some ⟨b5, 17, none⟩) := by show (bif Lx 5 then _ else _) = _; rw [h5]; rfl
            have g78 : (AsYb5 y rl t0 t1 t2 dl u v x Q op b1 b3x b3y b5 b8 b10 Lx).tmps[78]?.getD undef = .pointer (some ⟨b5, 17, none⟩) := by show (bif Lx 5 then _ else _) = _; rw [h5]; rfl
            exact i_wp rfl (by rfl) (wp_store_cell 3 _ _ rfl ⟨b5, 17, none⟩ (.int .i64 0) e78 rfl (kb_run_set hw (i := 3) rfl 3 17 (.int .i64 (bif Lx 6 then 0 else x.p17)) (.int .i64 0) (by rfl) (fun W h1 h2 => by go_simp)) ⟨by kernel_rfl, cast_blk (Kb.set (i := 3) hw rfl 17 (.int .i64 0)) (by rfl)⟩)
          | 7, _ =>
            have g6 : (AsYb5 y rl t0 t1 t2 dl u v x Q op b1 b3x b3y b5 b8 b10 Lx).tmps[6]?.getD undef = .pointer (some ⟨b5, 0, none⟩) := by kernel_rfl
            have e6 : (AsYb5 y rl t0 t1 t2 dl u v x Q op b1 b3x b3y b5 b8 b10 Lx).eval (.tmp 6) = .pointer (some ⟨b5, 0, none⟩) := by kernel_rfl
            exact i_val rfl (.pointer (some ⟨b5, 18, none⟩)) w' (by rfl) (by go_simp) ⟨by kernel_rfl, hw⟩
          | 8, _ =>
            have h7 := haft 7 (by decide)
            have e79 : (AsYb5 y rl t0 t1 t2 dl u v x Q op b1 b3x b3y b5 b8 b10 Lx).eval (.tmp 79) = .pointer (some ⟨b5, 18, none⟩) := by show (bif Lx 7 then _ else _) = _; rw [h7]; rfl
            have g79 : (AsYb5 y rl t0 t1 t2 dl u v x Q op b1 b3x b3y b5 b8 b10 Lx).tmps[79]?.getD undef = .pointer (some ⟨b5, 18, none⟩) := by show (bif Lx 7 then _ else _) = _; rw [h7]; rfl
            exact i_wp rfl (by rfl) (wp_store_cell 3 _ _ rfl ⟨b5, 18, none⟩ (.int .i64 0) e79 rfl (kb_run_set hw (i := 3) rfl 3 18 (.int .i64 (bif Lx 8 then 0 else x.p18)) (.int .i64 0) (by rfl) (fun W h1 h2 => by go_simp)) ⟨by kernel_rfl, cast_blk (Kb.set (i := 3) hw rfl 18 (.int .i64 0)) (by rfl)⟩)
          | 9, _ =>
            have g6 : (AsYb5 y rl t0 t1 t2 dl u v x Q op b1 b3x b3y b5 b8 b10 Lx).tmps[6]?.getD undef = .pointer (some ⟨b5, 0, none⟩) := by kernel_rfl
            have e6 : (AsYb5 y rl t0 t1 t2 dl u v x Q op b1 b3x b3y b5 b8 b10 Lx).eval (.tmp 6) = .pointer (some ⟨b5, 0, none⟩) := by kernel_rfl
            exact i_val rfl (.pointer (some ⟨b5, 9, none⟩)) w' (by rfl) (by go_simp) ⟨by kernel_rfl, hw⟩
          | 10, _ =>
            have h9 := haft 9 (by decide)
            have e80 : (AsYb5 y rl t0 t1 t2 dl u v x Q op b1 b3x b3y b5 b8 b10 Lx).eval (.tmp 80) = .pointer (some ⟨b5, 9, none⟩) := by show (bif Lx 9 then _ else _) = _; rw [h9]; rfl
            have g80 : (AsYb5 y rl t0 t1 t2 dl u v x Q op b1 b3x b3y b5 b8 b10 Lx).tmps[80]?.getD undef = .pointer (some ⟨b5, 9, none⟩) := by show (bif Lx 9 then _ else _) = _; rw [h9]; rfl
            exact i_wp rfl (by rfl) (wp_store_cell 4 _ _ rfl ⟨b5, 9, none⟩ (.bool false) e80 rfl (kb_run_set hw (i := 3) rfl 4 9 (.bool (bif Lx 10 then false else x.p9)) (.bool false) (by rfl) (fun W h1 h2 => by go_simp)) ⟨by kernel_rfl, cast_blk (Kb.set (i := 3) hw rfl 9 (.bool false)) (by rfl)⟩)
          | k + 11, h =>
            exfalso
            have h2 : k + 11 < 11 := h
            omega
        intro Lx ac w13 hI hall
        obtain ⟨rfl, hw⟩ := hI
        have hfr : AsYb5 y rl t0 t1 t2 dl u v x Q op b1 b3x b3y b5 b8 b10 Lx = { tmps := #[.agg (askA y rl t0 t1 t2 dl), .pointer (some ⟨b1, 0, none⟩), .bool false, .int .i64 4, .pointer (some ⟨b3x, 0, none⟩), .pointer (some ⟨b3y, 0, none⟩), .pointer (some ⟨b5, 0, none⟩), .pointer (some ⟨b8, 0, none⟩), .bool true, .bool op, .pointer (some ⟨b10, 0, none⟩), .bool true, .bool true, .bool false, .pointer (some ⟨b1, 15, none⟩), .int .u8 (rl : Nat), .int .u8 (Int.tmod (rl : Nat) 5), .int .i64 4, .pointer (some ⟨b1, 16, none⟩), .agg (#[.int .u8 (t0 : Nat), .int .u8 (t1 : Nat), .int .u8 (t2 : Nat)]), .agg (vcA v), .pointer (some ⟨b1, 19, none⟩), .int .i64 dl, .agg (cfA ⟨0, 0, 0, dl, 0, 0⟩), .pointer (some ⟨b1, 0, none⟩), .agg (#[.bool y.f0, .bool y.f1, .bool y.f2, .bool y.f3, .bool y.f4, .int .u8 (y.n0 : Nat), .int .u8 (y.n1 : Nat), .int .u8 (y.n2 : Nat), .int .u8 (y.v0 : Nat), .int .u8 (y.v1 : Nat), .int .u8 (y.v2 : Nat), .int .i32 y.k0, .int .i32 y.k1, .int .i32 y.k2, .int .i32 y.k3]), .agg (poA ⟨x.p0, x.p1, x.p2, x.p3, x.p4, x.p5, x.p6, x.p7, x.p8, x.p9, x.p10, x.p11, x.p12, (u.r : Nat), (u.c : Nat), (u.b : Nat), (u.p : Nat), x.p17, x.p18, x.p19, x.p20⟩), .tuple #[.agg (poA Q), .bool true, .bool op], .agg (poA ⟨x.p0, x.p1, x.p2, x.p3, x.p4, x.p5, x.p6, x.p7, x.p8, x.p9, x.p10, x.p11, x.p12, (u.r : Nat), (u.c : Nat), (u.b : Nat), (u.p : Nat), x.p17, x.p18, x.p19, x.p20⟩), .int .i64 4, .agg (vcA v), .agg (cfA ⟨0, 0, 0, dl, 0, 0⟩), .tuple #[.agg (poA Q), .bool true, .bool op], .agg (poA Q), .bool true, .bool op, .agg (poA ⟨x.p0, x.p1, x.p2, x.p3, x.p4, x.p5, x.p6, x.p7, x.p8, x.p9, x.p10, x.p11, x.p12, (u.r : Nat), (u.c : Nat), (u.b : Nat), (u.p : Nat), x.p17, x.p18, x.p19, x.p20⟩), .int .i64 4, .pointer (some ⟨b5, 10, none⟩), .int .i64 4, .bool false, .bool false, .int .i64 4, .bool false, .bool false, undef, undef, undef, .int .i64 4, .bool false, .bool false, undef, undef, undef, .bool false, undef, undef, undef, .int .i64 4, .bool true, .pointer (some ⟨b10, 10, none⟩), .int .i64 x.p10, .bool false, .bool false, .pointer (some ⟨b10, 12, none⟩), .int .i64 x.p12, .bool true, .bool true, .bool true, undef, undef, undef, undef, .bool true, .bool true, .agg (vcA v), .pointer (some ⟨b5, 12, none⟩), .pointer (some ⟨b5, 13, none⟩), .pointer (some ⟨b5, 17, none⟩), .pointer (some ⟨b5, 18, none⟩), .pointer (some ⟨b5, 9, none⟩), undef, undef, undef, undef, undef, undef, undef, undef, undef, undef, undef, undef, undef, undef, undef, undef, undef, undef, undef, undef, undef, undef, undef, undef, undef, undef, undef, undef, undef, undef, undef, undef, undef, undef, undef], defers := [] } := by unfold AsYb5; simp only [hall 0 (by decide), hall 1 (by decide), hall 3 (by decide), hall 5 (by decide), hall 7 (by decide), hall 9 (by decide), cond_true]
        rw [hfr]
        clear hfr
        have hL2 := hall 2 (by decide)
        have hL4 := hall 4 (by decide)
        have hL6 := hall 6 (by decide)
        have hL8 := hall 8 (by decide)
        have hL10 := hall 10 (by decide)
        simp only [hL2, hL4, hL6, hL8, hL10, cond_true] at hw
        have K13 := Lib.hid (show Kb w [(b1, askA y rl t0 t1 t2 dl, 28), (b3x, vcA v, 35), (b3y, cfA ⟨0, 0, 0, dl, 0, 0⟩, 38), (b5, poA ⟨x.p0, x.p1, x.p2, x.p3, x.p4, x.p5, x.p6, x.p7, x.p8, false, 4, x.p11, 1, (v.r : Nat), (v.c : Nat), (v.b : Nat), (v.p : Nat), 0, 0, x.p19, x.p20⟩, 42), (b8, poA Q, 42), (b10, poA ⟨x.p0, x.p1, x.p2, x.p3, x.p4, x.p5, x.p6, x.p7, x.p8, x.p9, x.p10, x.p11, x.p12, (u.r : Nat), (u.c : Nat), (u.b : Nat), (u.p : Nat), x.p17, x.p18, x.p19, x.p20⟩, 42)] w13 from hw)
        clear hw hall hL2 hL4 hL6 hL8 hL10
        go_upto_region 17 with fail
        refine wp_region_lit ?_
        refine wpList_val (.pointer (some ⟨b10, 10, none⟩)) (by rfl) (by go_simp) ?_
        (try simp only [Act.put, List.getElem_toArray, List.getElem_cons_succ, List.getElem_cons_zero, List.setIfInBounds_toArray, List.set_cons_zero, List.set_cons_succ])
        refine wpList_val (.int .i64 x.p10) (by rfl) (by have q : w13.cell? ⟨b10, 10, none⟩ = some (.int .i64 x.p10) := K13.out.cell (i := 5) rfl (by rfl); go_simp) ?_
        (try simp only [Act.put, List.getElem_toArray, List.getElem_cons_succ, List.getElem_cons_zero, List.setIfInBounds_toArray, List.set_cons_zero, List.set_cons_succ])
        refine wpList_val (.bool false) (by rfl) (by have q := HP10.out; go_simp) ?_
        (try simp only [Act.put, List.getElem_toArray, List.getElem_cons_succ, List.getElem_cons_zero, List.setIfInBounds_toArray, List.set_cons_zero, List.set_cons_succ])
        refine wpList_nil ?_
        go_upto_region 19 with fail
        refine wp_region_lit ?_
        refine wpList_val (.pointer (some ⟨b10, 5, none⟩)) (by rfl) (by go_simp) ?_
        (try simp only [Act.put, List.getElem_toArray, List.getElem_cons_succ, List.getElem_cons_zero, List.setIfInBounds_toArray, List.set_cons_zero, List.set_cons_succ])
        refine wpList_val (.bool true) (by rfl) (by have q : w13.cell? ⟨b10, 5, none⟩ = some (.bool x.p5) := K13.out.cell (i := 5) rfl (by rfl); rw [H5.out] at q; go_simp) ?_
        (try simp only [Act.put, List.getElem_toArray, List.getElem_cons_succ, List.getElem_cons_zero, List.setIfInBounds_toArray, List.set_cons_zero, List.set_cons_succ])
        refine wpList_val (.bool true) (by rfl) (by go_simp) ?_
        (try simp only [Act.put, List.getElem_toArray, List.getElem_cons_succ, List.getElem_cons_zero, List.setIfInBounds_toArray, List.set_cons_zero, List.set_cons_succ])
        refine wpList_val (.pointer (some ⟨b10, 8, none⟩)) (by rfl) (by go_simp) ?_
        (try simp only [Act.put, List.getElem_toArray, List.getElem_cons_succ, List.getElem_cons_zero, List.setIfInBounds_toArray, List.set_cons_zero, List.set_cons_succ])
        refine wpList_val (.bool false) (by rfl) (by have q : w13.cell? ⟨b10, 8, none⟩ = some (.bool x.p8) := K13.out.cell (i := 5) rfl (by rfl); rw [H8.out] at q; go_simp) ?_
        (try simp only [Act.put, List.getElem_toArray, List.getElem_cons_succ, List.getElem_cons_zero, List.setIfInBounds_toArray, List.set_cons_zero, List.set_cons_succ])
        refine wpList_val (.bool false) (by rfl) (run_pick_yes (.tmp 90) (.tmp 92) (.const (.bool false)) _ rfl rfl rfl) ?_
        (try simp only [Act.put, List.getElem_toArray, List.getElem_cons_succ, List.getElem_cons_zero, List.setIfInBounds_toArray, List.set_cons_zero, List.set_cons_succ])
        refine wpList_nil ?_
        go_upto_region 21 with fail
        have hop : op = (decide (x.p11 = (2 : Int)) && !decide (x.p11 = 2)) := by rw [HO.out, HQQ.out]; rfl
        by_cases hn2 : x.p11 = 2
        case pos =>
          have HW := Lib.hid hn2
          have HN := Lib.hid hn2
          clear hn2
          have HOP := Lib.hid (show op = false from by rw [hop]; simp [HN.out])
          clear hop
          refine wp_region_lit ?_
          refine wpList_val (.agg (poA Q)) (by rfl) (kb_all K13.out 4 rfl 42 _ rfl rfl Try.underlying42 rfl (size50)) ?_
          (try simp only [Act.put, List.getElem_toArray, List.getElem_cons_succ, List.getElem_cons_zero, List.setIfInBounds_toArray, List.set_cons_zero, List.set_cons_succ])
          refine wpList_val (.agg (poA ⟨x.p0, x.p1, x.p2, x.p3, x.p4, x.p5, x.p6, x.p7, x.p8, false, 4, x.p11, 1, (v.r : Nat), (v.c : Nat), (v.b : Nat), (v.p : Nat), 0, 0, x.p19, x.p20⟩)) (by rfl) (kb_all K13.out 3 rfl 42 _ rfl rfl Try.underlying42 rfl (size50)) ?_
          (try simp only [Act.put, List.getElem_toArray, List.getElem_cons_succ, List.getElem_cons_zero, List.setIfInBounds_toArray, List.set_cons_zero, List.set_cons_succ])
          refine wpList_val (.bool true) (by rfl) (by have q := eq_po2 (show Q = ⟨x.p0, x.p1, x.p2, x.p3, x.p4, x.p5, x.p6, x.p7, x.p8, false, 4, x.p11, 1, (v.r : Nat), (v.c : Nat), (v.b : Nat), (v.p : Nat), 0, 0, x.p19, x.p20⟩ from HQQ.out); go_simp) ?_
          (try simp only [Act.put, List.getElem_toArray, List.getElem_cons_succ, List.getElem_cons_zero, List.setIfInBounds_toArray, List.set_cons_zero, List.set_cons_succ])
          refine wpList_val (.bool true) (by rfl) (by go_simp) ?_
          (try simp only [Act.put, List.getElem_toArray, List.getElem_cons_succ, List.getElem_cons_zero, List.setIfInBounds_toArray, List.set_cons_zero, List.set_cons_succ])
          refine wpList_val (.bool true) (by rfl) (by go_simp) ?_
          (try simp only [Act.put, List.getElem_toArray, List.getElem_cons_succ, List.getElem_cons_zero, List.setIfInBounds_toArray, List.set_cons_zero, List.set_cons_succ])
          refine wpList_val (.bool true) (by rfl) (by go_simp) ?_
          (try simp only [Act.put, List.getElem_toArray, List.getElem_cons_succ, List.getElem_cons_zero, List.setIfInBounds_toArray, List.set_cons_zero, List.set_cons_succ])
          refine wpList_val (.bool true) (by rfl) (by go_simp) ?_
          (try simp only [Act.put, List.getElem_toArray, List.getElem_cons_succ, List.getElem_cons_zero, List.setIfInBounds_toArray, List.set_cons_zero, List.set_cons_succ])
          refine wpList_val (.bool true) (by rfl) (run_pick_yes (.tmp 99) (.tmp 102) (.const (.bool false)) _ rfl rfl rfl) ?_
          (try simp only [Act.put, List.getElem_toArray, List.getElem_cons_succ, List.getElem_cons_zero, List.setIfInBounds_toArray, List.set_cons_zero, List.set_cons_succ])
          refine wpList_val (.bool true) (by rfl) (by go_simp) ?_
          (try simp only [Act.put, List.getElem_toArray, List.getElem_cons_succ, List.getElem_cons_zero, List.setIfInBounds_toArray, List.set_cons_zero, List.set_cons_succ])
          refine wpList_val (.bool op) (by rfl) (by go_simp) ?_
          (try simp only [Act.put, List.getElem_toArray, List.getElem_cons_succ, List.getElem_cons_zero, List.setIfInBounds_toArray, List.set_cons_zero, List.set_cons_succ])
          refine wpList_val (.pointer (some ⟨b5, 11, none⟩)) (by rfl) (by go_simp) ?_
          (try simp only [Act.put, List.getElem_toArray, List.getElem_cons_succ, List.getElem_cons_zero, List.setIfInBounds_toArray, List.set_cons_zero, List.set_cons_succ])
          refine wpList_val (.int .i64 x.p11) (by rfl) (by have q : w13.cell? ⟨b5, 11, none⟩ = some (.int .i64 x.p11) := K13.out.cell (i := 3) rfl (by rfl); go_simp) ?_
          (try simp only [Act.put, List.getElem_toArray, List.getElem_cons_succ, List.getElem_cons_zero, List.setIfInBounds_toArray, List.set_cons_zero, List.set_cons_succ])
          refine wpList_val (.bool true) (by rfl) (by have q := HN.out; go_simp) ?_
          (try simp only [Act.put, List.getElem_toArray, List.getElem_cons_succ, List.getElem_cons_zero, List.setIfInBounds_toArray, List.set_cons_zero, List.set_cons_succ])
          refine wpList_val (.bool true) (by rfl) (by go_simp) ?_
          (try simp only [Act.put, List.getElem_toArray, List.getElem_cons_succ, List.getElem_cons_zero, List.setIfInBounds_toArray, List.set_cons_zero, List.set_cons_succ])
          refine wpList_val (.pointer (some ⟨b10, 11, none⟩)) (by rfl) (by go_simp) ?_
          (try simp only [Act.put, List.getElem_toArray, List.getElem_cons_succ, List.getElem_cons_zero, List.setIfInBounds_toArray, List.set_cons_zero, List.set_cons_succ])
          refine wpList_val (.int .i64 x.p11) (by rfl) (by have q : w13.cell? ⟨b10, 11, none⟩ = some (.int .i64 x.p11) := K13.out.cell (i := 5) rfl (by rfl); go_simp) ?_
          (try simp only [Act.put, List.getElem_toArray, List.getElem_cons_succ, List.getElem_cons_zero, List.setIfInBounds_toArray, List.set_cons_zero, List.set_cons_succ])
          refine wpList_val (.bool false) (by rfl) (by have q := HW.out; go_simp) ?_
          (try simp only [Act.put, List.getElem_toArray, List.getElem_cons_succ, List.getElem_cons_zero, List.setIfInBounds_toArray, List.set_cons_zero, List.set_cons_succ])
          refine wpList_val (.bool false) (by rfl) (run_pick_yes (.tmp 109) (.tmp 112) (.const (.bool false)) _ rfl rfl rfl) ?_
          (try simp only [Act.put, List.getElem_toArray, List.getElem_cons_succ, List.getElem_cons_zero, List.setIfInBounds_toArray, List.set_cons_zero, List.set_cons_succ])
          refine wpList_val (.bool true) (by rfl) (by have q := HOP.out; go_simp) ?_
          (try simp only [Act.put, List.getElem_toArray, List.getElem_cons_succ, List.getElem_cons_zero, List.setIfInBounds_toArray, List.set_cons_zero, List.set_cons_succ])
          refine wpList_val (.bool true) (by rfl) (run_pick_yes (.tmp 104) (.tmp 114) (.const (.bool false)) _ rfl rfl rfl) ?_
          (try simp only [Act.put, List.getElem_toArray, List.getElem_cons_succ, List.getElem_cons_zero, List.setIfInBounds_toArray, List.set_cons_zero, List.set_cons_succ])
          refine wpList_val (.bool true) (by rfl) (by go_simp) ?_
          (try simp only [Act.put, List.getElem_toArray, List.getElem_cons_succ, List.getElem_cons_zero, List.setIfInBounds_toArray, List.set_cons_zero, List.set_cons_succ])
          refine wpList_nil ?_
          go_wp2_with fail
          go_ret
          exact ⟨ret_bool (rfl), K13.out.below⟩
        case neg =>
          have HN := Lib.hid hn2
          clear hn2
          have HOP := Lib.hid (show op = false from by rw [hop]; simp [HN.out])
          clear hop
          refine wp_region_lit ?_
          refine wpList_val (.agg (poA Q)) (by rfl) (kb_all K13.out 4 rfl 42 _ rfl rfl Try.underlying42 rfl (size50)) ?_
          (try simp only [Act.put, List.getElem_toArray, List.getElem_cons_succ, List.getElem_cons_zero, List.setIfInBounds_toArray, List.set_cons_zero, List.set_cons_succ])
          refine wpList_val (.agg (poA ⟨x.p0, x.p1, x.p2, x.p3, x.p4, x.p5, x.p6, x.p7, x.p8, false, 4, x.p11, 1, (v.r : Nat), (v.c : Nat), (v.b : Nat), (v.p : Nat), 0, 0, x.p19, x.p20⟩)) (by rfl) (kb_all K13.out 3 rfl 42 _ rfl rfl Try.underlying42 rfl (size50)) ?_
          (try simp only [Act.put, List.getElem_toArray, List.getElem_cons_succ, List.getElem_cons_zero, List.setIfInBounds_toArray, List.set_cons_zero, List.set_cons_succ])
          refine wpList_val (.bool true) (by rfl) (by have q := eq_po2 (show Q = ⟨x.p0, x.p1, x.p2, x.p3, x.p4, x.p5, x.p6, x.p7, x.p8, false, 4, x.p11, 1, (v.r : Nat), (v.c : Nat), (v.b : Nat), (v.p : Nat), 0, 0, x.p19, x.p20⟩ from HQQ.out); go_simp) ?_
          (try simp only [Act.put, List.getElem_toArray, List.getElem_cons_succ, List.getElem_cons_zero, List.setIfInBounds_toArray, List.set_cons_zero, List.set_cons_succ])
          refine wpList_val (.bool true) (by rfl) (by go_simp) ?_
          (try simp only [Act.put, List.getElem_toArray, List.getElem_cons_succ, List.getElem_cons_zero, List.setIfInBounds_toArray, List.set_cons_zero, List.set_cons_succ])
          refine wpList_val (.bool true) (by rfl) (by go_simp) ?_
          (try simp only [Act.put, List.getElem_toArray, List.getElem_cons_succ, List.getElem_cons_zero, List.setIfInBounds_toArray, List.set_cons_zero, List.set_cons_succ])
          refine wpList_val (.bool true) (by rfl) (by go_simp) ?_
          (try simp only [Act.put, List.getElem_toArray, List.getElem_cons_succ, List.getElem_cons_zero, List.setIfInBounds_toArray, List.set_cons_zero, List.set_cons_succ])
          refine wpList_val (.bool true) (by rfl) (by go_simp) ?_
          (try simp only [Act.put, List.getElem_toArray, List.getElem_cons_succ, List.getElem_cons_zero, List.setIfInBounds_toArray, List.set_cons_zero, List.set_cons_succ])
          refine wpList_val (.bool true) (by rfl) (run_pick_yes (.tmp 99) (.tmp 102) (.const (.bool false)) _ rfl rfl rfl) ?_
          (try simp only [Act.put, List.getElem_toArray, List.getElem_cons_succ, List.getElem_cons_zero, List.setIfInBounds_toArray, List.set_cons_zero, List.set_cons_succ])
          refine wpList_val (.bool true) (by rfl) (by go_simp) ?_
          (try simp only [Act.put, List.getElem_toArray, List.getElem_cons_succ, List.getElem_cons_zero, List.setIfInBounds_toArray, List.set_cons_zero, List.set_cons_succ])
          refine wpList_val (.bool op) (by rfl) (by go_simp) ?_
          (try simp only [Act.put, List.getElem_toArray, List.getElem_cons_succ, List.getElem_cons_zero, List.setIfInBounds_toArray, List.set_cons_zero, List.set_cons_succ])
          refine wpList_val (.pointer (some ⟨b5, 11, none⟩)) (by rfl) (by go_simp) ?_
          (try simp only [Act.put, List.getElem_toArray, List.getElem_cons_succ, List.getElem_cons_zero, List.setIfInBounds_toArray, List.set_cons_zero, List.set_cons_succ])
          refine wpList_val (.int .i64 x.p11) (by rfl) (by have q : w13.cell? ⟨b5, 11, none⟩ = some (.int .i64 x.p11) := K13.out.cell (i := 3) rfl (by rfl); go_simp) ?_
          (try simp only [Act.put, List.getElem_toArray, List.getElem_cons_succ, List.getElem_cons_zero, List.setIfInBounds_toArray, List.set_cons_zero, List.set_cons_succ])
          refine wpList_val (.bool false) (by rfl) (by have q := HN.out; go_simp) ?_
          (try simp only [Act.put, List.getElem_toArray, List.getElem_cons_succ, List.getElem_cons_zero, List.setIfInBounds_toArray, List.set_cons_zero, List.set_cons_succ])
          refine wpList_val (.bool false) (by rfl) (by go_simp) ?_
          (try simp only [Act.put, List.getElem_toArray, List.getElem_cons_succ, List.getElem_cons_zero, List.setIfInBounds_toArray, List.set_cons_zero, List.set_cons_succ])
          refine wpList_skip (by kernel_rfl) ?_
          (try simp only [Act.put, List.getElem_toArray, List.getElem_cons_succ, List.getElem_cons_zero, List.setIfInBounds_toArray, List.set_cons_zero, List.set_cons_succ])
          refine wpList_skip (by kernel_rfl) ?_
          (try simp only [Act.put, List.getElem_toArray, List.getElem_cons_succ, List.getElem_cons_zero, List.setIfInBounds_toArray, List.set_cons_zero, List.set_cons_succ])
          refine wpList_skip (by kernel_rfl) ?_
          (try simp only [Act.put, List.getElem_toArray, List.getElem_cons_succ, List.getElem_cons_zero, List.setIfInBounds_toArray, List.set_cons_zero, List.set_cons_succ])
          refine wpList_val (.bool false) (by rfl) (run_pick_no (.tmp 109) (.tmp 112) (.const (.bool false)) _ rfl rfl rfl) ?_
          (try simp only [Act.put, List.getElem_toArray, List.getElem_cons_succ, List.getElem_cons_zero, List.setIfInBounds_toArray, List.set_cons_zero, List.set_cons_succ])
          refine wpList_val (.bool true) (by rfl) (by have q := HOP.out; go_simp) ?_
          (try simp only [Act.put, List.getElem_toArray, List.getElem_cons_succ, List.getElem_cons_zero, List.setIfInBounds_toArray, List.set_cons_zero, List.set_cons_succ])
          refine wpList_val (.bool true) (by rfl) (run_pick_yes (.tmp 104) (.tmp 114) (.const (.bool false)) _ rfl rfl rfl) ?_
          (try simp only [Act.put, List.getElem_toArray, List.getElem_cons_succ, List.getElem_cons_zero, List.setIfInBounds_toArray, List.set_cons_zero, List.set_cons_succ])
          refine wpList_val (.bool true) (by rfl) (by go_simp) ?_
          (try simp only [Act.put, List.getElem_toArray, List.getElem_cons_succ, List.getElem_cons_zero, List.setIfInBounds_toArray, List.set_cons_zero, List.set_cons_succ])
          refine wpList_nil ?_
          go_wp2_with fail
          go_ret
          exact ⟨ret_bool (rfl), K13.out.below⟩
      case inr =>
        have H8 := Lib.hid h8
        clear h8
        have hB : desB x u v = true := by simp [desB, HP10.out, HI.out]
        have HB := Lib.hid hB
        clear hB
        have hed : edgeB x = true := by simp [edgeB, H5.out, H8.out]
        have HED := Lib.hid hed
        clear hed
        have ha : an = true := by rw [HAN.out]; simp [assumeN, HB.out]
        subst ha
        have hq : Q = ⟨x.p0, x.p1, x.p2, x.p3, x.p4, x.p5, x.p6, x.p7, x.p8, false, 4, 2, 1, (v.r : Nat), (v.c : Nat), (v.b : Nat), (v.p : Nat), 0, 0, 0, x.p20⟩ := by rw [HQ.out]; unfold assumeP; rw [if_neg (by decide), if_neg (by decide), if_pos rfl]; simp [desP, desV, HB.out, HED.out, HP10.out]
        have HQQ := Lib.hid hq
        clear hq
        refine wp_region_lit ?_
        refine wpList_val (.int .i64 4) (by rfl) (by go_simp) ?_
        (try simp only [Act.put, List.getElem_toArray, List.getElem_cons_succ, List.getElem_cons_zero, List.setIfInBounds_toArray, List.set_cons_zero, List.set_cons_succ])
        refine wpList_val (.bool false) (by rfl) (by go_simp) ?_
        (try simp only [Act.put, List.getElem_toArray, List.getElem_cons_succ, List.getElem_cons_zero, List.setIfInBounds_toArray, List.set_cons_zero, List.set_cons_succ])
        refine wpList_val (.bool false) (by rfl) (by go_simp) ?_
        (try simp only [Act.put, List.getElem_toArray, List.getElem_cons_succ, List.getElem_cons_zero, List.setIfInBounds_toArray, List.set_cons_zero, List.set_cons_succ])
        refine wpList_val (.int .i64 4) (by rfl) (by go_simp) ?_
        (try simp only [Act.put, List.getElem_toArray, List.getElem_cons_succ, List.getElem_cons_zero, List.setIfInBounds_toArray, List.set_cons_zero, List.set_cons_succ])
        refine wpList_val (.bool false) (by rfl) (by go_simp) ?_
        (try simp only [Act.put, List.getElem_toArray, List.getElem_cons_succ, List.getElem_cons_zero, List.setIfInBounds_toArray, List.set_cons_zero, List.set_cons_succ])
        refine wpList_val (.bool false) (by rfl) (run_pick_no (.tmp 41) (.const (.bool true)) (.tmp 43) _ rfl rfl rfl) ?_
        (try simp only [Act.put, List.getElem_toArray, List.getElem_cons_succ, List.getElem_cons_zero, List.setIfInBounds_toArray, List.set_cons_zero, List.set_cons_succ])
        refine wpList_nil ?_
        go_upto_region 11 with fail
        refine wp_region_lit ?_
        refine wpList_val (.int .i64 4) (by rfl) (by go_simp) ?_
        (try simp only [Act.put, List.getElem_toArray, List.getElem_cons_succ, List.getElem_cons_zero, List.setIfInBounds_toArray, List.set_cons_zero, List.set_cons_succ])
        refine wpList_val (.bool false) (by rfl) (by go_simp) ?_
        (try simp only [Act.put, List.getElem_toArray, List.getElem_cons_succ, List.getElem_cons_zero, List.setIfInBounds_toArray, List.set_cons_zero, List.set_cons_succ])
        refine wpList_val (.bool false) (by rfl) (by go_simp) ?_
        (try simp only [Act.put, List.getElem_toArray, List.getElem_cons_succ, List.getElem_cons_zero, List.setIfInBounds_toArray, List.set_cons_zero, List.set_cons_succ])
        refine wpList_skip (by kernel_rfl) ?_
        (try simp only [Act.put, List.getElem_toArray, List.getElem_cons_succ, List.getElem_cons_zero, List.setIfInBounds_toArray, List.set_cons_zero, List.set_cons_succ])
        refine wpList_skip (by kernel_rfl) ?_
        (try simp only [Act.put, List.getElem_toArray, List.getElem_cons_succ, List.getElem_cons_zero, List.setIfInBounds_toArray, List.set_cons_zero, List.set_cons_succ])
        refine wpList_skip (by kernel_rfl) ?_
        (try simp only [Act.put, List.getElem_toArray, List.getElem_cons_succ, List.getElem_cons_zero, List.setIfInBounds_toArray, List.set_cons_zero, List.set_cons_succ])
        refine wpList_val (.bool false) (by rfl) (run_pick_no (.tmp 50) (.tmp 53) (.const (.bool false)) _ rfl rfl rfl) ?_
        (try simp only [Act.put, List.getElem_toArray, List.getElem_cons_succ, List.getElem_cons_zero, List.setIfInBounds_toArray, List.set_cons_zero, List.set_cons_succ])
        refine wpList_nil ?_
        go_upto_region 13 with fail
        refine wp_region_lit ?_
        refine wpList_val (.int .i64 4) (by rfl) (by go_simp) ?_
        (try simp only [Act.put, List.getElem_toArray, List.getElem_cons_succ, List.getElem_cons_zero, List.setIfInBounds_toArray, List.set_cons_zero, List.set_cons_succ])
        refine wpList_val (.bool true) (by rfl) (by go_simp) ?_
        (try simp only [Act.put, List.getElem_toArray, List.getElem_cons_succ, List.getElem_cons_zero, List.setIfInBounds_toArray, List.set_cons_zero, List.set_cons_succ])
        refine wpList_nil ?_
        go_upto_region 14 with fail
        refine wp_region_lit ?_
        refine wpList_val (.pointer (some ⟨b10, 10, none⟩)) (by rfl) (by go_simp) ?_
        (try simp only [Act.put, List.getElem_toArray, List.getElem_cons_succ, List.getElem_cons_zero, List.setIfInBounds_toArray, List.set_cons_zero, List.set_cons_succ])
        refine wpList_val (.int .i64 x.p10) (by rfl) (by have q : w12.cell? ⟨b10, 10, none⟩ = some (.int .i64 x.p10) := K12.out.cell (i := 5) rfl (by rfl); go_simp) ?_
        (try simp only [Act.put, List.getElem_toArray, List.getElem_cons_succ, List.getElem_cons_zero, List.setIfInBounds_toArray, List.set_cons_zero, List.set_cons_succ])
        refine wpList_val (.bool false) (by rfl) (by have q := HP10.out; go_simp) ?_
        (try simp only [Act.put, List.getElem_toArray, List.getElem_cons_succ, List.getElem_cons_zero, List.setIfInBounds_toArray, List.set_cons_zero, List.set_cons_succ])
        refine wpList_val (.bool false) (by rfl) (by go_simp) ?_
        (try simp only [Act.put, List.getElem_toArray, List.getElem_cons_succ, List.getElem_cons_zero, List.setIfInBounds_toArray, List.set_cons_zero, List.set_cons_succ])
        refine wpList_val (.pointer (some ⟨b10, 12, none⟩)) (by rfl) (by go_simp) ?_
        (try simp only [Act.put, List.getElem_toArray, List.getElem_cons_succ, List.getElem_cons_zero, List.setIfInBounds_toArray, List.set_cons_zero, List.set_cons_succ])
        refine wpList_val (.int .i64 x.p12) (by rfl) (by have q : w12.cell? ⟨b10, 12, none⟩ = some (.int .i64 x.p12) := K12.out.cell (i := 5) rfl (by rfl); go_simp) ?_
        (try simp only [Act.put, List.getElem_toArray, List.getElem_cons_succ, List.getElem_cons_zero, List.setIfInBounds_toArray, List.set_cons_zero, List.set_cons_succ])
        refine wpList_val (.bool true) (by rfl) (by have q := HI.out; go_simp) ?_
        (try simp only [Act.put, List.getElem_toArray, List.getElem_cons_succ, List.getElem_cons_zero, List.setIfInBounds_toArray, List.set_cons_zero, List.set_cons_succ])
        refine wpList_val (.bool true) (by rfl) (run_pick_no (.tmp 63) (.const (.bool true)) (.tmp 66) _ rfl rfl rfl) ?_
        (try simp only [Act.put, List.getElem_toArray, List.getElem_cons_succ, List.getElem_cons_zero, List.setIfInBounds_toArray, List.set_cons_zero, List.set_cons_succ])
        refine wpList_val (.bool true) (by rfl) (by go_simp) ?_
        (try simp only [Act.put, List.getElem_toArray, List.getElem_cons_succ, List.getElem_cons_zero, List.setIfInBounds_toArray, List.set_cons_zero, List.set_cons_succ])
        refine wpList_skip (by kernel_rfl) ?_
        (try simp only [Act.put, List.getElem_toArray, List.getElem_cons_succ, List.getElem_cons_zero, List.setIfInBounds_toArray, List.set_cons_zero, List.set_cons_succ])
        refine wpList_skip (by kernel_rfl) ?_
        (try simp only [Act.put, List.getElem_toArray, List.getElem_cons_succ, List.getElem_cons_zero, List.setIfInBounds_toArray, List.set_cons_zero, List.set_cons_succ])
        refine wpList_skip (by kernel_rfl) ?_
        (try simp only [Act.put, List.getElem_toArray, List.getElem_cons_succ, List.getElem_cons_zero, List.setIfInBounds_toArray, List.set_cons_zero, List.set_cons_succ])
        refine wpList_skip (by kernel_rfl) ?_
        (try simp only [Act.put, List.getElem_toArray, List.getElem_cons_succ, List.getElem_cons_zero, List.setIfInBounds_toArray, List.set_cons_zero, List.set_cons_succ])
        refine wpList_val (.bool true) (by rfl) (run_pick_yes (.tmp 68) (.const (.bool true)) (.tmp 72) _ rfl rfl rfl) ?_
        (try simp only [Act.put, List.getElem_toArray, List.getElem_cons_succ, List.getElem_cons_zero, List.setIfInBounds_toArray, List.set_cons_zero, List.set_cons_succ])
        refine wpList_val (.bool true) (by rfl) (by go_simp) ?_
        (try simp only [Act.put, List.getElem_toArray, List.getElem_cons_succ, List.getElem_cons_zero, List.setIfInBounds_toArray, List.set_cons_zero, List.set_cons_succ])
        refine wpList_nil ?_
        go_upto_region 15 with fail
        refine wp_region_lit ?_
        refine wpList_val (.bool true) (by rfl) (by go_simp) ?_
        (try simp only [Act.put, List.getElem_toArray, List.getElem_cons_succ, List.getElem_cons_zero, List.setIfInBounds_toArray, List.set_cons_zero, List.set_cons_succ])
        refine wpList_nil ?_
        go_upto_region 16 with fail
        refine wp_region_inv (I := fun L ac w' => ac = AsYb6 y rl t0 t1 t2 dl u v x Q op b1 b3x b3y b5 b8 b10 L ∧ Kb w [(b1, askA y rl t0 t1 t2 dl, 28), (b3x, vcA v, 35), (b3y, cfA ⟨0, 0, 0, dl, 0, 0⟩, 38), (b5, poA ⟨x.p0, x.p1, x.p2, x.p3, x.p4, x.p5, x.p6, x.p7, x.p8, (bif L 10 then false else x.p9), 4, x.p11, (bif L 2 then 1 else x.p12), (bif L 4 then (v.r : Nat) else (u.r : Nat)), (bif L 4 then (v.c : Nat) else (u.c : Nat)), (bif L 4 then (v.b : Nat) else (u.b : Nat)), (bif L 4 then (v.p : Nat) else (u.p : Nat)), (bif L 6 then 0 else x.p17), (bif L 8 then 0 else x.p18), x.p19, x.p20⟩, 42), (b8, poA Q, 42), (b10, poA ⟨x.p0, x.p1, x.p2, x.p3, x.p4, x.p5, x.p6, x.p7, x.p8, x.p9, x.p10, x.p11, x.p12, (u.r : Nat), (u.c : Nat), (u.b : Nat), (u.p : Nat), x.p17, x.p18, x.p19, x.p20⟩, 42)] w') (by kernel_rfl) (by kernel_rfl) ⟨by kernel_rfl, K12.out.drew⟩ ?_ ?_
        · intro i hi Lx ac w' hI hL haft
          obtain ⟨rfl, hw⟩ := hI
          match i, hi with
          | 0, _ =>
            have g4 : (AsYb6 y rl t0 t1 t2 dl u v x Q op b1 b3x b3y b5 b8 b10 Lx).tmps[4]?.getD undef = .pointer (some ⟨b3x, 0, none⟩) := by kernel_rfl
            have e4 : (AsYb6 y rl t0 t1 t2 dl u v x Q op b1 b3x b3y b5 b8 b10 Lx).eval (.tmp 4) = .pointer (some ⟨b3x, 0, none⟩) := by kernel_rfl
            exact i_val rfl (.agg (vcA v)) w' (by rfl) (kb_all hw 1 rfl 35 _ rfl e4 Try.underlying35 rfl (sizeV)) ⟨by kernel_rfl, hw⟩
          | 1, _ =>
            have g6 : (AsYb6 y rl t0 t1 t2 dl u v x Q op b1 b3x b3y b5 b8 b10 Lx).tmps[6]?.getD undef = .pointer (some ⟨b5, 0, none⟩) := by kernel_rfl
            have e6 : (AsYb6 y rl t0 t1 t2 dl u v x Q op b1 b3x b3y b5 b8 b10 Lx).eval (.tmp 6) = .pointer (some ⟨b5, 0, none⟩) := by kernel_rfl
            exact i_val rfl (.pointer (some ⟨b5, 12, none⟩)) w' (by rfl) (by go_simp) ⟨by kernel_rfl, hw⟩
          | 2, _ =>
            have h1 := haft 1 (by decide)
            have e76 : (AsYb6 y rl t0 t1 t2 dl u v x Q op b1 b3x b3y b5 b8 b10 Lx).eval (.tmp 76) = .pointer (some ⟨b5, 12, none⟩) := by show (bif Lx 1 then _ else _) = _; rw [h1]; rfl
            have g76 : (AsYb6 y rl t0 t1 t2 dl u v x Q op b1 b3x b3y b5 b8 b10 Lx).tmps[76]?.getD undef = .pointer (some ⟨b5, 12, none⟩) := by show (bif Lx 1 then _ else _) = _; rw [h1]; rfl
            exact i_wp rfl (by rfl) (wp_store_cell 3 _ _ rfl ⟨b5, 12, none⟩ (.int .i64 1) e76 rfl (kb_run_set hw (i := 3) rfl 3 12 (.int .i64 (bif Lx 2 then 1 else x.p12)) (.int .i64 1) (by rfl) (fun W h1 h2 => by go_simp)) ⟨by kernel_rfl, cast_blk (Kb.set (i := 3) hw rfl 12 (.int .i64 1)) (by rfl)⟩)
          | 3, _ =>
            have g6 : (AsYb6 y rl t0 t1 t2 dl u v x Q op b1 b3x b3y b5 b8 b10 Lx).tmps[6]?.getD undef = .pointer (some ⟨b5, 0, none⟩) := by kernel_rfl
            have e6 : (AsYb6 y rl t0 t1 t2 dl u v x Q op b1 b3x b3y b5 b8 b10 Lx).eval (.tmp 6) = .pointer (some ⟨b5, 0, none⟩) := by kernel_rfl
            exact i_val rfl (.pointer (some ⟨b5, 13, none⟩)) w' (by rfl) (by go_simp) ⟨by kernel_rfl, hw⟩
          | 4, _ =>
            have h0 := haft 0 (by decide)
            have e75 : (AsYb6 y rl t0 t1 t2 dl u v x Q op b1 b3x b3y b5 b8 b10 Lx).eval (.tmp 75) = .agg (vcA v) := by show (bif Lx 0 then _ else _) = _; rw [h0]; rfl
            have g75 : (AsYb6 y rl t0 t1 t2 dl u v x Q op b1 b3x b3y b5 b8 b10 Lx).tmps[75]?.getD undef = .agg (vcA v) := by show (bif Lx 0 then _ else _) = _; rw [h0]; rfl
            have h3 := haft 3 (by decide)
            have e77 : (AsYb6 y rl t0 t1 t2 dl u v x Q op b1 b3x b3y b5 b8 b10 Lx).eval (.tmp 77) = .pointer (some ⟨b5, 13, none⟩) := by show (bif Lx 3 then _ else _) = _; rw [h3]; rfl
            have g77 : (AsYb6 y rl t0 t1 t2 dl u v x Q op b1 b3x b3y b5 b8 b10 Lx).tmps[77]?.getD undef = .pointer (some ⟨b5, 13, none⟩) := by show (bif Lx 3 then _ else _) = _; rw [h3]; rfl
            exact i_wp rfl (by rfl) (wp_store_mid 35 _ _ rfl b5 13 (vcA v) e77 e75 ((Kb.at (i := 3) hw rfl).thereN 13 4 (Nat.le_of_ble_eq_true (by kernel_rfl))) (sizeV) (by kernel_rfl) ⟨by kernel_rfl, cast_blk (Kb.mid (i := 3) hw rfl 13 (vcA v).toList) (by rfl)⟩)
          | 5, _ =>
            have g6 : (AsYb6 y rl t0 t1 t2 dl u v x Q op b1 b3x b3y b5 b8 b10 Lx).tmps[6]?.getD undef = .pointer (some ⟨b5, 0, none⟩) := by kernel_rfl
            have e6 : (AsYb6 y rl t0 t1 t2 dl u v x Q op b1 b3x b3y b5 b8 b10 Lx).eval (.tmp 6) = .pointer (some ⟨b5, 0, none⟩) := by kernel_rfl
            exact i_val rfl (.pointer (some ⟨b5, 17, none⟩)) w' (by rfl) (by go_simp) ⟨by kernel_rfl, hw⟩
          | 6, _ =>
            have h5 := haft 5 (by decide)
            have e78 : (AsYb6 y rl t0 t1 t2 dl u v x Q op b1 b3x b3y b5 b8 b10 Lx).eval (.tmp 78) = .pointer (some ⟨b5, 17, none⟩) := by show (bif Lx 5 then _ else _) = _; rw [h5]; rfl
            have g78 : (AsYb6 y rl t0 t1 t2 dl u v x Q op b1 b3x b3y b5 b8 b10 Lx).tmps[78]?.getD undef = .pointer (some ⟨b5, 17, none⟩) := by show (bif Lx 5 then _ else _) = _; rw [h5]; rfl
            exact i_wp rfl (by rfl) (wp_store_cell 3 _ _ rfl ⟨b5, 17, none⟩ (.int .i64 0) e78 rfl (kb_run_set hw (i := 3) rfl 3 17 (.int .i64 (bif Lx 6 then 0 else x.p17)) (.int .i64 0) (by rfl) (fun W h1 h2 => by go_simp)) ⟨by kernel_rfl, cast_blk (Kb.set (i := 3) hw rfl 17 (.int .i64 0)) (by rfl)⟩)
          | 7, _ =>
            have g6 : (AsYb6 y rl t0 t1 t2 dl u v x Q op b1 b3x b3y b5 b8 b10 Lx).tmps[6]?.getD undef = .pointer (some ⟨b5, 0, none⟩) := by kernel_rfl
            have e6 : (AsYb6 y rl t0 t1 t2 dl u v x Q op b1 b3x b3y b5 b8 b10 Lx).eval (.tmp 6) = .pointer (some ⟨b5, 0, none⟩) := by kernel_rfl
            exact i_val rfl (.pointer (some ⟨b5, 18, none⟩)) w' (by rfl) (by go_simp) ⟨by kernel_rfl, hw⟩
          | 8, _ =>
            have h7 := haft 7 (by decide)
            have e79 : (AsYb6 y rl t0 t1 t2 dl u v x Q op b1 b3x b3y b5 b8 b10 Lx).eval (.tmp 79) = .pointer (some ⟨b5, 18, none⟩) := by show (bif Lx 7 then _ else _) = _; rw [h7]; rfl
            have g79 : (AsYb6 y rl t0 t1 t2 dl u v x Q op b1 b3x b3y b5 b8 b10 Lx).tmps[79]?.getD undef = .pointer (some ⟨b5, 18, none⟩) := by show (bif Lx 7 then _ else _) = _; rw [h7]; rfl
            exact i_wp rfl (by rfl) (wp_store_cell 3 _ _ rfl ⟨b5, 18, none⟩ (.int .i64 0) e79 rfl (kb_run_set hw (i := 3) rfl 3 18 (.int .i64 (bif Lx 8 then 0 else x.p18)) (.int .i64 0) (by rfl) (fun W h1 h2 => by go_simp)) ⟨by kernel_rfl, cast_blk (Kb.set (i := 3) hw rfl 18 (.int .i64 0)) (by rfl)⟩)
          | 9, _ =>
            have g6 : (AsYb6 y rl t0 t1 t2 dl u v x Q op b1 b3x b3y b5 b8 b10 Lx).tmps[6]?.getD undef = .pointer (some ⟨b5, 0, none⟩) := by kernel_rfl
            have e6 : (AsYb6 y rl t0 t1 t2 dl u v x Q op b1 b3x b3y b5 b8 b10 Lx).eval (.tmp 6) = .pointer (some ⟨b5, 0, none⟩) := by kernel_rfl
            exact i_val rfl (.pointer (some ⟨b5, 9, none⟩)) w' (by rfl) (by go_simp) ⟨by kernel_rfl, hw⟩
          | 10, _ =>
            have h9 := haft 9 (by decide)
            have e80 : (AsYb6 y rl t0 t1 t2 dl u v x Q op b1 b3x b3y b5 b8 b10 Lx).eval (.tmp 80) = .pointer (some ⟨b5, 9, none⟩) := by show (bif Lx 9 then _ else _) = _; rw [h9]; rfl
            have g80 : (AsYb6 y rl t0 t1 t2 dl u v x Q op b1 b3x b3y b5 b8 b10 Lx).tmps[80]?.getD undef = .pointer (some ⟨b5, 9, none⟩) := by show (bif Lx 9 then _ else _) = _; rw [h9]; rfl
            exact i_wp rfl (by rfl) (wp_store_cell 4 _ _ rfl ⟨b5, 9, none⟩ (.bool false) e80 rfl (kb_run_set hw (i := 3) rfl 4 9 (.bool (bif Lx 10 then false else x.p9)) (.bool false) (by rfl) (fun W h1 h2 => by go_simp)) ⟨by kernel_rfl, cast_blk (Kb.set (i := 3) hw rfl 9 (.bool false)) (by rfl)⟩)
          | k + 11, h =>
            exfalso
            have h2 : k + 11 < 11 := h
            omega
        intro Lx ac w13 hI hall
        obtain ⟨rfl, hw⟩ := hI
        have hfr : AsYb6 y rl t0 t1 t2 dl u v x Q op b1 b3x b3y b5 b8 b10 Lx = { tmps := #[.agg (askA y rl t0 t1 t2 dl), .pointer (some ⟨b1, 0, none⟩), .bool false, .int .i64 4, .pointer (some ⟨b3x, 0, none⟩), .pointer (some ⟨b3y, 0, none⟩), .pointer (some ⟨b5, 0, none⟩), .pointer (some ⟨b8, 0, none⟩), .bool true, .bool op, .pointer (some ⟨b10, 0, none⟩), .bool true, .bool true, .bool false, .pointer (some ⟨b1, 15, none⟩), .int .u8 (rl : Nat), .int .u8 (Int.tmod (rl : Nat) 5), .int .i64 4, .pointer (some ⟨b1, 16, none⟩), .agg (#[.int .u8 (t0 : Nat), .int .u8 (t1 : Nat), .int .u8 (t2 : Nat)]), .agg (vcA v), .pointer (some ⟨b1, 19, none⟩), .int .i64 dl, .agg (cfA ⟨0, 0, 0, dl, 0, 0⟩), .pointer (some ⟨b1, 0, none⟩), .agg (#[.bool y.f0, .bool y.f1, .bool y.f2, .bool y.f3, .bool y.f4, .int .u8 (y.n0 : Nat), .int .u8 (y.n1 : Nat), .int .u8 (y.n2 : Nat), .int .u8 (y.v0 : Nat), .int .u8 (y.v1 : Nat), .int .u8 (y.v2 : Nat), .int .i32 y.k0, .int .i32 y.k1, .int .i32 y.k2, .int .i32 y.k3]), .agg (poA ⟨x.p0, x.p1, x.p2, x.p3, x.p4, x.p5, x.p6, x.p7, x.p8, x.p9, x.p10, x.p11, x.p12, (u.r : Nat), (u.c : Nat), (u.b : Nat), (u.p : Nat), x.p17, x.p18, x.p19, x.p20⟩), .tuple #[.agg (poA Q), .bool true, .bool op], .agg (poA ⟨x.p0, x.p1, x.p2, x.p3, x.p4, x.p5, x.p6, x.p7, x.p8, x.p9, x.p10, x.p11, x.p12, (u.r : Nat), (u.c : Nat), (u.b : Nat), (u.p : Nat), x.p17, x.p18, x.p19, x.p20⟩), .int .i64 4, .agg (vcA v), .agg (cfA ⟨0, 0, 0, dl, 0, 0⟩), .tuple #[.agg (poA Q), .bool true, .bool op], .agg (poA Q), .bool true, .bool op, .agg (poA ⟨x.p0, x.p1, x.p2, x.p3, x.p4, x.p5, x.p6, x.p7, x.p8, x.p9, x.p10, x.p11, x.p12, (u.r : Nat), (u.c : Nat), (u.b : Nat), (u.p : Nat), x.p17, x.p18, x.p19, x.p20⟩), .int .i64 4, .pointer (some ⟨b5, 10, none⟩), .int .i64 4, .bool false, .bool false, .int .i64 4, .bool false, .bool false, undef, undef, undef, .int .i64 4, .bool false, .bool false, undef, undef, undef, .bool false, undef, undef, undef, .int .i64 4, .bool true, .pointer (some ⟨b10, 10, none⟩), .int .i64 x.p10, .bool false, .bool false, .pointer (some ⟨b10, 12, none⟩), .int .i64 x.p12, .bool true, .bool true, .bool true, undef, undef, undef, undef, .bool true, .bool true, .agg (vcA v), .pointer (some ⟨b5, 12, none⟩), .pointer (some ⟨b5, 13, none⟩), .pointer (some ⟨b5, 17, none⟩), .pointer (some ⟨b5, 18, none⟩), .pointer (some ⟨b5, 9, none⟩), undef, undef, undef, undef, undef, undef, undef, undef, undef, undef, undef, undef, undef, undef, undef, undef, undef, undef, undef, undef, undef, undef, undef, undef, undef, undef, undef, undef, undef, undef, undef, undef, undef, undef, undef], defers := [] } := by unfold AsYb6; simp only [hall 0 (by decide), hall 1 (by decide), hall 3 (by decide), hall 5 (by decide), hall 7 (by decide), hall 9 (by decide), cond_true]
        rw [hfr]
        clear hfr
        have hL2 := hall 2 (by decide)
        have hL4 := hall 4 (by decide)
        have hL6 := hall 6 (by decide)
        have hL8 := hall 8 (by decide)
        have hL10 := hall 10 (by decide)
        simp only [hL2, hL4, hL6, hL8, hL10, cond_true] at hw
        have K13 := Lib.hid (show Kb w [(b1, askA y rl t0 t1 t2 dl, 28), (b3x, vcA v, 35), (b3y, cfA ⟨0, 0, 0, dl, 0, 0⟩, 38), (b5, poA ⟨x.p0, x.p1, x.p2, x.p3, x.p4, x.p5, x.p6, x.p7, x.p8, false, 4, x.p11, 1, (v.r : Nat), (v.c : Nat), (v.b : Nat), (v.p : Nat), 0, 0, x.p19, x.p20⟩, 42), (b8, poA Q, 42), (b10, poA ⟨x.p0, x.p1, x.p2, x.p3, x.p4, x.p5, x.p6, x.p7, x.p8, x.p9, x.p10, x.p11, x.p12, (u.r : Nat), (u.c : Nat), (u.b : Nat), (u.p : Nat), x.p17, x.p18, x.p19, x.p20⟩, 42)] w13 from hw)
        clear hw hall hL2 hL4 hL6 hL8 hL10
        go_upto_region 17 with fail
        refine wp_region_lit ?_
        refine wpList_val (.pointer (some ⟨b10, 10, none⟩)) (by rfl) (by go_simp) ?_
        (try simp only [Act.put, List.getElem_toArray, List.getElem_cons_succ, List.getElem_cons_zero, List.setIfInBounds_toArray, List.set_cons_zero, List.set_cons_succ])
        refine wpList_val (.int .i64 x.p10) (by rfl) (by have q : w13.cell? ⟨b10, 10, none⟩ = some (.int .i64 x.p10) := K13.out.cell (i := 5) rfl (by rfl); go_simp) ?_
        (try simp only [Act.put, List.getElem_toArray, List.getElem_cons_succ, List.getElem_cons_zero, List.setIfInBounds_toArray, List.set_cons_zero, List.set_cons_succ])
        refine wpList_val (.bool false) (by rfl) (by have q := HP10.out; go_simp) ?_
        (try simp only [Act.put, List.getElem_toArray, List.getElem_cons_succ, List.getElem_cons_zero, List.setIfInBounds_toArray, List.set_cons_zero, List.set_cons_succ])
        refine wpList_nil ?_
        go_upto_region 19 with fail
        refine wp_region_lit ?_
        refine wpList_val (.pointer (some ⟨b10, 5, none⟩)) (by rfl) (by go_simp) ?_
        (try simp only [Act.put, List.getElem_toArray, List.getElem_cons_succ, List.getElem_cons_zero, List.setIfInBounds_toArray, List.set_cons_zero, List.set_cons_succ])
        refine wpList_val (.bool true) (by rfl) (by have q : w13.cell? ⟨b10, 5, none⟩ = some (.bool x.p5) := K13.out.cell (i := 5) rfl (by rfl); rw [H5.out] at q; go_simp) ?_
        (try simp only [Act.put, List.getElem_toArray, List.getElem_cons_succ, List.getElem_cons_zero, List.setIfInBounds_toArray, List.set_cons_zero, List.set_cons_succ])
        refine wpList_val (.bool true) (by rfl) (by go_simp) ?_
        (try simp only [Act.put, List.getElem_toArray, List.getElem_cons_succ, List.getElem_cons_zero, List.setIfInBounds_toArray, List.set_cons_zero, List.set_cons_succ])
        refine wpList_val (.pointer (some ⟨b10, 8, none⟩)) (by rfl) (by go_simp) ?_
        (try simp only [Act.put, List.getElem_toArray, List.getElem_cons_succ, List.getElem_cons_zero, List.setIfInBounds_toArray, List.set_cons_zero, List.set_cons_succ])
        refine wpList_val (.bool true) (by rfl) (by have q : w13.cell? ⟨b10, 8, none⟩ = some (.bool x.p8) := K13.out.cell (i := 5) rfl (by rfl); rw [H8.out] at q; go_simp) ?_
        (try simp only [Act.put, List.getElem_toArray, List.getElem_cons_succ, List.getElem_cons_zero, List.setIfInBounds_toArray, List.set_cons_zero, List.set_cons_succ])
        refine wpList_val (.bool true) (by rfl) (run_pick_yes (.tmp 90) (.tmp 92) (.const (.bool false)) _ rfl rfl rfl) ?_
        (try simp only [Act.put, List.getElem_toArray, List.getElem_cons_succ, List.getElem_cons_zero, List.setIfInBounds_toArray, List.set_cons_zero, List.set_cons_succ])
        refine wpList_nil ?_
        go_upto_region 20 with fail
        refine wp_region_lit ?_
        refine wpList_val (.pointer (some ⟨b5, 11, none⟩)) (by rfl) (by go_simp) ?_
        (try simp only [Act.put, List.getElem_toArray, List.getElem_cons_succ, List.getElem_cons_zero, List.setIfInBounds_toArray, List.set_cons_zero, List.set_cons_succ])
        refine kb_set K13.out 3 rfl 3 _ _ 11 (.int .i64 2) rfl (by rfl) rfl rfl (kb_run_set K13.out (i := 3) rfl 3 11 (.int .i64 x.p11) (.int .i64 2) (by rfl) (fun W h1 h2 => by go_simp)) (poA ⟨x.p0, x.p1, x.p2, x.p3, x.p4, x.p5, x.p6, x.p7, x.p8, false, 4, 2, 1, (v.r : Nat), (v.c : Nat), (v.b : Nat), (v.p : Nat), 0, 0, x.p19, x.p20⟩) (by kernel_rfl) ?_
        intro w14 hk
        have K14 := Lib.hid (show Kb w [(b1, askA y rl t0 t1 t2 dl, 28), (b3x, vcA v, 35), (b3y, cfA ⟨0, 0, 0, dl, 0, 0⟩, 38), (b5, poA ⟨x.p0, x.p1, x.p2, x.p3, x.p4, x.p5, x.p6, x.p7, x.p8, false, 4, 2, 1, (v.r : Nat), (v.c : Nat), (v.b : Nat), (v.p : Nat), 0, 0, x.p19, x.p20⟩, 42), (b8, poA Q, 42), (b10, poA ⟨x.p0, x.p1, x.p2, x.p3, x.p4, x.p5, x.p6, x.p7, x.p8, x.p9, x.p10, x.p11, x.p12, (u.r : Nat), (u.c : Nat), (u.b : Nat), (u.p : Nat), x.p17, x.p18, x.p19, x.p20⟩, 42)] w14 from hk)
        clear hk
        (try simp only [Act.put, List.getElem_toArray, List.getElem_cons_succ, List.getElem_cons_zero, List.setIfInBounds_toArray, List.set_cons_zero, List.set_cons_succ])
        refine wpList_val (.pointer (some ⟨b5, 19, none⟩)) (by rfl) (by go_simp) ?_
        (try simp only [Act.put, List.getElem_toArray, List.getElem_cons_succ, List.getElem_cons_zero, List.setIfInBounds_toArray, List.set_cons_zero, List.set_cons_succ])
        refine kb_set K14.out 3 rfl 3 _ _ 19 (.int .i64 0) rfl (by rfl) rfl rfl (kb_run_set K14.out (i := 3) rfl 3 19 (.int .i64 x.p19) (.int .i64 0) (by rfl) (fun W h1 h2 => by go_simp)) (poA ⟨x.p0, x.p1, x.p2, x.p3, x.p4, x.p5, x.p6, x.p7, x.p8, false, 4, 2, 1, (v.r : Nat), (v.c : Nat), (v.b : Nat), (v.p : Nat), 0, 0, 0, x.p20⟩) (by kernel_rfl) ?_
        intro w15 hk
        have K15 := Lib.hid (show Kb w [(b1, askA y rl t0 t1 t2 dl, 28), (b3x, vcA v, 35), (b3y, cfA ⟨0, 0, 0, dl, 0, 0⟩, 38), (b5, poA ⟨x.p0, x.p1, x.p2, x.p3, x.p4, x.p5, x.p6, x.p7, x.p8, false, 4, 2, 1, (v.r : Nat), (v.c : Nat), (v.b : Nat), (v.p : Nat), 0, 0, 0, x.p20⟩, 42), (b8, poA Q, 42), (b10, poA ⟨x.p0, x.p1, x.p2, x.p3, x.p4, x.p5, x.p6, x.p7, x.p8, x.p9, x.p10, x.p11, x.p12, (u.r : Nat), (u.c : Nat), (u.b : Nat), (u.p : Nat), x.p17, x.p18, x.p19, x.p20⟩, 42)] w15 from hk)
        clear hk
        (try simp only [Act.put, List.getElem_toArray, List.getElem_cons_succ, List.getElem_cons_zero, List.setIfInBounds_toArray, List.set_cons_zero, List.set_cons_succ])
        refine wpList_nil ?_
        go_upto_region 21 with fail
        have hop : op = (decide (2 = (2 : Int)) && !decide (x.p11 = 2)) := by rw [HO.out, HQQ.out]; rfl
        by_cases hw2 : x.p11 = 2
        case pos =>
          have HW := Lib.hid hw2
          clear hw2
          have HOP := Lib.hid (show op = false from by rw [hop]; simp [HW.out])
          clear hop
          refine wp_region_lit ?_
          refine wpList_val (.agg (poA Q)) (by rfl) (kb_all K15.out 4 rfl 42 _ rfl rfl Try.underlying42 rfl (size50)) ?_
          (try simp only [Act.put, List.getElem_toArray, List.getElem_cons_succ, List.getElem_cons_zero, List.setIfInBounds_toArray, List.set_cons_zero, List.set_cons_succ])
          refine wpList_val (.agg (poA ⟨x.p0, x.p1, x.p2, x.p3, x.p4, x.p5, x.p6, x.p7, x.p8, false, 4, 2, 1, (v.r : Nat), (v.c : Nat), (v.b : Nat), (v.p : Nat), 0, 0, 0, x.p20⟩)) (by rfl) (kb_all K15.out 3 rfl 42 _ rfl rfl Try.underlying42 rfl (size50)) ?_
          (try simp only [Act.put, List.getElem_toArray, List.getElem_cons_succ, List.getElem_cons_zero, List.setIfInBounds_toArray, List.set_cons_zero, List.set_cons_succ])
          refine wpList_val (.bool true) (by rfl) (by have q := eq_po2 (show Q = ⟨x.p0, x.p1, x.p2, x.p3, x.p4, x.p5, x.p6, x.p7, x.p8, false, 4, 2, 1, (v.r : Nat), (v.c : Nat), (v.b : Nat), (v.p : Nat), 0, 0, 0, x.p20⟩ from HQQ.out); go_simp) ?_
          (try simp only [Act.put, List.getElem_toArray, List.getElem_cons_succ, List.getElem_cons_zero, List.setIfInBounds_toArray, List.set_cons_zero, List.set_cons_succ])
          refine wpList_val (.bool true) (by rfl) (by go_simp) ?_
          (try simp only [Act.put, List.getElem_toArray, List.getElem_cons_succ, List.getElem_cons_zero, List.setIfInBounds_toArray, List.set_cons_zero, List.set_cons_succ])
          refine wpList_val (.bool true) (by rfl) (by go_simp) ?_
          (try simp only [Act.put, List.getElem_toArray, List.getElem_cons_succ, List.getElem_cons_zero, List.setIfInBounds_toArray, List.set_cons_zero, List.set_cons_succ])
          refine wpList_val (.bool true) (by rfl) (by go_simp) ?_
          (try simp only [Act.put, List.getElem_toArray, List.getElem_cons_succ, List.getElem_cons_zero, List.setIfInBounds_toArray, List.set_cons_zero, List.set_cons_succ])
          refine wpList_val (.bool true) (by rfl) (by go_simp) ?_
          (try simp only [Act.put, List.getElem_toArray, List.getElem_cons_succ, List.getElem_cons_zero, List.setIfInBounds_toArray, List.set_cons_zero, List.set_cons_succ])
          refine wpList_val (.bool true) (by rfl) (run_pick_yes (.tmp 99) (.tmp 102) (.const (.bool false)) _ rfl rfl rfl) ?_
          (try simp only [Act.put, List.getElem_toArray, List.getElem_cons_succ, List.getElem_cons_zero, List.setIfInBounds_toArray, List.set_cons_zero, List.set_cons_succ])
          refine wpList_val (.bool true) (by rfl) (by go_simp) ?_
          (try simp only [Act.put, List.getElem_toArray, List.getElem_cons_succ, List.getElem_cons_zero, List.setIfInBounds_toArray, List.set_cons_zero, List.set_cons_succ])
          refine wpList_val (.bool op) (by rfl) (by go_simp) ?_
          (try simp only [Act.put, List.getElem_toArray, List.getElem_cons_succ, List.getElem_cons_zero, List.setIfInBounds_toArray, List.set_cons_zero, List.set_cons_succ])
          refine wpList_val (.pointer (some ⟨b5, 11, none⟩)) (by rfl) (by go_simp) ?_
          (try simp only [Act.put, List.getElem_toArray, List.getElem_cons_succ, List.getElem_cons_zero, List.setIfInBounds_toArray, List.set_cons_zero, List.set_cons_succ])
          refine wpList_val (.int .i64 2) (by rfl) (by have q : w15.cell? ⟨b5, 11, none⟩ = some (.int .i64 2) := K15.out.cell (i := 3) rfl (by rfl); go_simp) ?_
          (try simp only [Act.put, List.getElem_toArray, List.getElem_cons_succ, List.getElem_cons_zero, List.setIfInBounds_toArray, List.set_cons_zero, List.set_cons_succ])
          refine wpList_val (.bool true) (by rfl) (by go_simp) ?_
          (try simp only [Act.put, List.getElem_toArray, List.getElem_cons_succ, List.getElem_cons_zero, List.setIfInBounds_toArray, List.set_cons_zero, List.set_cons_succ])
          refine wpList_val (.bool true) (by rfl) (by go_simp) ?_
          (try simp only [Act.put, List.getElem_toArray, List.getElem_cons_succ, List.getElem_cons_zero, List.setIfInBounds_toArray, List.set_cons_zero, List.set_cons_succ])
          refine wpList_val (.pointer (some ⟨b10, 11, none⟩)) (by rfl) (by go_simp) ?_
          (try simp only [Act.put, List.getElem_toArray, List.getElem_cons_succ, List.getElem_cons_zero, List.setIfInBounds_toArray, List.set_cons_zero, List.set_cons_succ])
          refine wpList_val (.int .i64 x.p11) (by rfl) (by have q : w15.cell? ⟨b10, 11, none⟩ = some (.int .i64 x.p11) := K15.out.cell (i := 5) rfl (by rfl); go_simp) ?_
          (try simp only [Act.put, List.getElem_toArray, List.getElem_cons_succ, List.getElem_cons_zero, List.setIfInBounds_toArray, List.set_cons_zero, List.set_cons_succ])
          refine wpList_val (.bool false) (by rfl) (by have q := HW.out; go_simp) ?_
          (try simp only [Act.put, List.getElem_toArray, List.getElem_cons_succ, List.getElem_cons_zero, List.setIfInBounds_toArray, List.set_cons_zero, List.set_cons_succ])
          refine wpList_val (.bool false) (by rfl) (run_pick_yes (.tmp 109) (.tmp 112) (.const (.bool false)) _ rfl rfl rfl) ?_
          (try simp only [Act.put, List.getElem_toArray, List.getElem_cons_succ, List.getElem_cons_zero, List.setIfInBounds_toArray, List.set_cons_zero, List.set_cons_succ])
          refine wpList_val (.bool true) (by rfl) (by have q := HOP.out; go_simp) ?_
          (try simp only [Act.put, List.getElem_toArray, List.getElem_cons_succ, List.getElem_cons_zero, List.setIfInBounds_toArray, List.set_cons_zero, List.set_cons_succ])
          refine wpList_val (.bool true) (by rfl) (run_pick_yes (.tmp 104) (.tmp 114) (.const (.bool false)) _ rfl rfl rfl) ?_
          (try simp only [Act.put, List.getElem_toArray, List.getElem_cons_succ, List.getElem_cons_zero, List.setIfInBounds_toArray, List.set_cons_zero, List.set_cons_succ])
          refine wpList_val (.bool true) (by rfl) (by go_simp) ?_
          (try simp only [Act.put, List.getElem_toArray, List.getElem_cons_succ, List.getElem_cons_zero, List.setIfInBounds_toArray, List.set_cons_zero, List.set_cons_succ])
          refine wpList_nil ?_
          go_wp2_with fail
          go_ret
          exact ⟨ret_bool (rfl), K15.out.below⟩
        case neg =>
          have HW := Lib.hid hw2
          clear hw2
          have HOP := Lib.hid (show op = true from by rw [hop]; simp [HW.out])
          clear hop
          refine wp_region_lit ?_
          refine wpList_val (.agg (poA Q)) (by rfl) (kb_all K15.out 4 rfl 42 _ rfl rfl Try.underlying42 rfl (size50)) ?_
          (try simp only [Act.put, List.getElem_toArray, List.getElem_cons_succ, List.getElem_cons_zero, List.setIfInBounds_toArray, List.set_cons_zero, List.set_cons_succ])
          refine wpList_val (.agg (poA ⟨x.p0, x.p1, x.p2, x.p3, x.p4, x.p5, x.p6, x.p7, x.p8, false, 4, 2, 1, (v.r : Nat), (v.c : Nat), (v.b : Nat), (v.p : Nat), 0, 0, 0, x.p20⟩)) (by rfl) (kb_all K15.out 3 rfl 42 _ rfl rfl Try.underlying42 rfl (size50)) ?_
          (try simp only [Act.put, List.getElem_toArray, List.getElem_cons_succ, List.getElem_cons_zero, List.setIfInBounds_toArray, List.set_cons_zero, List.set_cons_succ])
          refine wpList_val (.bool true) (by rfl) (by have q := eq_po2 (show Q = ⟨x.p0, x.p1, x.p2, x.p3, x.p4, x.p5, x.p6, x.p7, x.p8, false, 4, 2, 1, (v.r : Nat), (v.c : Nat), (v.b : Nat), (v.p : Nat), 0, 0, 0, x.p20⟩ from HQQ.out); go_simp) ?_
          (try simp only [Act.put, List.getElem_toArray, List.getElem_cons_succ, List.getElem_cons_zero, List.setIfInBounds_toArray, List.set_cons_zero, List.set_cons_succ])
          refine wpList_val (.bool true) (by rfl) (by go_simp) ?_
          (try simp only [Act.put, List.getElem_toArray, List.getElem_cons_succ, List.getElem_cons_zero, List.setIfInBounds_toArray, List.set_cons_zero, List.set_cons_succ])
          refine wpList_val (.bool true) (by rfl) (by go_simp) ?_
          (try simp only [Act.put, List.getElem_toArray, List.getElem_cons_succ, List.getElem_cons_zero, List.setIfInBounds_toArray, List.set_cons_zero, List.set_cons_succ])
          refine wpList_val (.bool true) (by rfl) (by go_simp) ?_
          (try simp only [Act.put, List.getElem_toArray, List.getElem_cons_succ, List.getElem_cons_zero, List.setIfInBounds_toArray, List.set_cons_zero, List.set_cons_succ])
          refine wpList_val (.bool true) (by rfl) (by go_simp) ?_
          (try simp only [Act.put, List.getElem_toArray, List.getElem_cons_succ, List.getElem_cons_zero, List.setIfInBounds_toArray, List.set_cons_zero, List.set_cons_succ])
          refine wpList_val (.bool true) (by rfl) (run_pick_yes (.tmp 99) (.tmp 102) (.const (.bool false)) _ rfl rfl rfl) ?_
          (try simp only [Act.put, List.getElem_toArray, List.getElem_cons_succ, List.getElem_cons_zero, List.setIfInBounds_toArray, List.set_cons_zero, List.set_cons_succ])
          refine wpList_val (.bool true) (by rfl) (by go_simp) ?_
          (try simp only [Act.put, List.getElem_toArray, List.getElem_cons_succ, List.getElem_cons_zero, List.setIfInBounds_toArray, List.set_cons_zero, List.set_cons_succ])
          refine wpList_val (.bool op) (by rfl) (by go_simp) ?_
          (try simp only [Act.put, List.getElem_toArray, List.getElem_cons_succ, List.getElem_cons_zero, List.setIfInBounds_toArray, List.set_cons_zero, List.set_cons_succ])
          refine wpList_val (.pointer (some ⟨b5, 11, none⟩)) (by rfl) (by go_simp) ?_
          (try simp only [Act.put, List.getElem_toArray, List.getElem_cons_succ, List.getElem_cons_zero, List.setIfInBounds_toArray, List.set_cons_zero, List.set_cons_succ])
          refine wpList_val (.int .i64 2) (by rfl) (by have q : w15.cell? ⟨b5, 11, none⟩ = some (.int .i64 2) := K15.out.cell (i := 3) rfl (by rfl); go_simp) ?_
          (try simp only [Act.put, List.getElem_toArray, List.getElem_cons_succ, List.getElem_cons_zero, List.setIfInBounds_toArray, List.set_cons_zero, List.set_cons_succ])
          refine wpList_val (.bool true) (by rfl) (by go_simp) ?_
          (try simp only [Act.put, List.getElem_toArray, List.getElem_cons_succ, List.getElem_cons_zero, List.setIfInBounds_toArray, List.set_cons_zero, List.set_cons_succ])
          refine wpList_val (.bool true) (by rfl) (by go_simp) ?_
          (try simp only [Act.put, List.getElem_toArray, List.getElem_cons_succ, List.getElem_cons_zero, List.setIfInBounds_toArray, List.set_cons_zero, List.set_cons_succ])
          refine wpList_val (.pointer (some ⟨b10, 11, none⟩)) (by rfl) (by go_simp) ?_
          (try simp only [Act.put, List.getElem_toArray, List.getElem_cons_succ, List.getElem_cons_zero, List.setIfInBounds_toArray, List.set_cons_zero, List.set_cons_succ])
          refine wpList_val (.int .i64 x.p11) (by rfl) (by have q : w15.cell? ⟨b10, 11, none⟩ = some (.int .i64 x.p11) := K15.out.cell (i := 5) rfl (by rfl); go_simp) ?_
          (try simp only [Act.put, List.getElem_toArray, List.getElem_cons_succ, List.getElem_cons_zero, List.setIfInBounds_toArray, List.set_cons_zero, List.set_cons_succ])
          refine wpList_val (.bool true) (by rfl) (by have q := HW.out; go_simp) ?_
          (try simp only [Act.put, List.getElem_toArray, List.getElem_cons_succ, List.getElem_cons_zero, List.setIfInBounds_toArray, List.set_cons_zero, List.set_cons_succ])
          refine wpList_val (.bool true) (by rfl) (run_pick_yes (.tmp 109) (.tmp 112) (.const (.bool false)) _ rfl rfl rfl) ?_
          (try simp only [Act.put, List.getElem_toArray, List.getElem_cons_succ, List.getElem_cons_zero, List.setIfInBounds_toArray, List.set_cons_zero, List.set_cons_succ])
          refine wpList_val (.bool true) (by rfl) (by have q := HOP.out; go_simp) ?_
          (try simp only [Act.put, List.getElem_toArray, List.getElem_cons_succ, List.getElem_cons_zero, List.setIfInBounds_toArray, List.set_cons_zero, List.set_cons_succ])
          refine wpList_val (.bool true) (by rfl) (run_pick_yes (.tmp 104) (.tmp 114) (.const (.bool false)) _ rfl rfl rfl) ?_
          (try simp only [Act.put, List.getElem_toArray, List.getElem_cons_succ, List.getElem_cons_zero, List.setIfInBounds_toArray, List.set_cons_zero, List.set_cons_succ])
          refine wpList_val (.bool true) (by rfl) (by go_simp) ?_
          (try simp only [Act.put, List.getElem_toArray, List.getElem_cons_succ, List.getElem_cons_zero, List.setIfInBounds_toArray, List.set_cons_zero, List.set_cons_succ])
          refine wpList_nil ?_
          go_wp2_with fail
          go_ret
          exact ⟨ret_bool (rfl), K15.out.below⟩
end Go.Proofs.Yteeinlbhcdpnnaa
