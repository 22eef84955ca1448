/- Vectors and ports of plain data; what the laws ask first. -/
import Derived.Test.YteeinlbhcdpnnaaLq0
namespace Go.Proofs.Yteeinlbhcdpnnaa
open Go.RowKit
attribute [local irreducible] wpQuiet wpList
set_option linter.unusedSimpArgs false
set_option linter.unusedVariables false

theorem bool_two (b : Bool) : b = false ∨ b = true := by cases b <;> simp
theorem wrap_u64n {n : Nat} (h : n < 256) : IntKind.u64.wrap (n : Int) = (n : Int) := by
  simp [IntKind.wrap, IntKind.bits, IntKind.signed]
  omega
theorem wrap_u32n {n : Nat} (h : n < 256) : IntKind.u32.wrap (n : Int) = (n : Int) := by
  simp [IntKind.wrap, IntKind.bits, IntKind.signed]
  omega
set_option maxRecDepth 100000 in
set_option maxHeartbeats 8000000 in
theorem vec_any (a b c : Nat) (ha : a < 256) (hb : b < 256) (hc : c < 256) (w : World) : Calls Try.prog 7 #[.agg #[.int .u8 (a : Nat), .int .u8 (b : Nat), .int .u8 (c : Nat)]] w fun e w' => e = .returned (vcV (vecQ a b c)) ∧ Below w.heap.size w w' := by
  have HA := Lib.hid ha
  have HB := Lib.hid hb
  have HC := Lib.hid hc
  clear ha hb hc
  have K := Lib.hid (Kb.nil w)
  go_enter Try.func7, Try.ntmps7
  go_upto_region 0 with fail
  refine wp_region_lit ?_
  refine kb_box K.out 23 (.tmp 0) (#[.int .u8 (a : Nat), .int .u8 (b : Nat), .int .u8 (c : Nat)]) rfl rfl (by rfl) ?_
  intro b1 w1 hb1 hk
  have K1 := Lib.hid (show Kb w [(b1, #[.int .u8 (a : Nat), .int .u8 (b : Nat), .int .u8 (c : Nat)], 23)] w1 from hk)
  clear hk hb1
  (try simp only [Act.put, gA, gS, gZ, sA, sZ, sS])
  refine kb_alloc K1.out 35 (nil4) rfl zV (by rfl) ?_
  intro b2 w2 hb2 hk
  have K2 := Lib.hid (show Kb w [(b1, #[.int .u8 (a : Nat), .int .u8 (b : Nat), .int .u8 (c : Nat)], 23), (b2, nil4, 35)] w2 from hk)
  clear hk hb2
  (try simp only [Act.put, gA, gS, gZ, sA, sZ, sS])
  refine wpList_nil ?_
  go_upto_region 1 with fail
  refine wp_region_lit ?_
  refine wv (.pointer (some ⟨b1, 0, none⟩)) ?_
  (try simp only [Act.put, gA, gS, gZ, sA, sZ, sS])
  refine wv (.int .u8 (a : Nat)) ?_ (hrun := by have q : w2.cell? ⟨b1, 0, none⟩ = some (.int .u8 (a : Nat)) := K2.out.cell (i := 0) rfl (by rfl); go_simp)
  (try simp only [Act.put, gA, gS, gZ, sA, sZ, sS])
  refine wv (.int .u64 (a : Nat)) ?_ (hrun := by have q := HA.out; go_simp; try (exact wrap_u64n (by omega)))
  (try simp only [Act.put, gA, gS, gZ, sA, sZ, sS])
  refine wv (.pointer (some ⟨b1, 1, none⟩)) ?_
  (try simp only [Act.put, gA, gS, gZ, sA, sZ, sS])
  refine wv (.int .u8 (b : Nat)) ?_ (hrun := by have q : w2.cell? ⟨b1, 1, none⟩ = some (.int .u8 (b : Nat)) := K2.out.cell (i := 0) rfl (by rfl); go_simp)
  (try simp only [Act.put, gA, gS, gZ, sA, sZ, sS])
  refine wv (.int .u32 (b : Nat)) ?_ (hrun := by have q := HB.out; go_simp; try (exact wrap_u32n (by omega)))
  (try simp only [Act.put, gA, gS, gZ, sA, sZ, sS])
  refine wv (.pointer (some ⟨b1, 2, none⟩)) ?_
  (try simp only [Act.put, gA, gS, gZ, sA, sZ, sS])
  refine wv (.int .u8 (c : Nat)) ?_ (hrun := by have q : w2.cell? ⟨b1, 2, none⟩ = some (.int .u8 (c : Nat)) := K2.out.cell (i := 0) rfl (by rfl); go_simp)
  (try simp only [Act.put, gA, gS, gZ, sA, sZ, sS])
  refine wv (.int .u64 (c : Nat)) ?_ (hrun := by have q := HC.out; go_simp; try (exact wrap_u64n (by omega)))
  (try simp only [Act.put, gA, gS, gZ, sA, sZ, sS])
  refine wv (.agg (vcA (vecQ a b c))) ?_ (hrun := run_build_of 35 [(0, .tmp 5), (1, .tmp 8), (2, .tmp 11)] rfl _ (vcA (vecQ a b c)) rfl (by kernel_rfl))
  (try simp only [Act.put, gA, gS, gZ, sA, sZ, sS])
  refine kb_row K2.out 1 rfl 35 _ _ (vcA (vecQ a b c)) rfl rfl rfl rfl (sizeV) (by rfl) (by kernel_rfl) ?_
  intro w3 hk
  have K3 := Lib.hid (show Kb w [(b1, #[.int .u8 (a : Nat), .int .u8 (b : Nat), .int .u8 (c : Nat)], 23), (b2, vcA (vecQ a b c), 35)] w3 from hk)
  clear hk
  (try simp only [Act.put, gA, gS, gZ, sA, sZ, sS])
  refine wpList_nil ?_
  go_wp2_with fail
  refine bodyPost_ret (v := .agg (vcA (vecQ a b c))) (results_cell_row Try.results7 _ _ b2 35 (vcA (vecQ a b c)) (0, 0) _ rfl (K3.out.at (i := 1) rfl) Try.underlying35 rfl sizeV) rfl ?_
  exact ⟨rfl, K3.out.below⟩
/-- The slots, while the region runs. -/
def MadeF (y : Lq) (b1 b2 : Nat) (L : Nat → Bool) : Act := { tmps := #[.agg (lqA y), .pointer (some ⟨b1, 0, none⟩), .pointer (some ⟨b2, 0, none⟩), bif L 0 then .pointer (some ⟨b1, 0, none⟩) else undef, bif L 1 then .pointer (some ⟨b1, 0, none⟩) else undef, bif L 2 then .bool y.f0 else undef, bif L 3 then .pointer (some ⟨b1, 0, none⟩) else undef, bif L 4 then .pointer (some ⟨b1, 1, none⟩) else undef, bif L 5 then .bool y.f1 else undef, bif L 6 then .pointer (some ⟨b1, 0, none⟩) else undef, bif L 7 then .pointer (some ⟨b1, 2, none⟩) else undef, bif L 8 then .bool y.f2 else undef, bif L 9 then .pointer (some ⟨b1, 0, none⟩) else undef, bif L 10 then .pointer (some ⟨b1, 3, none⟩) else undef, bif L 11 then .bool y.f3 else undef, bif L 12 then .pointer (some ⟨b1, 0, none⟩) else undef, bif L 13 then .pointer (some ⟨b1, 4, none⟩) else undef, bif L 14 then .bool y.f4 else undef, bif L 15 then .pointer (some ⟨b1, 5, none⟩) else undef, bif L 16 then .pointer (some ⟨b1, 5, none⟩) else undef, bif L 17 then .int .u8 (y.n0 : Nat) else undef, bif L 18 then .int .u8 (Int.tmod (y.n0 : Nat) 5) else undef, bif L 19 then .int .i64 (IntKind.i64.wrap (Int.tmod (y.n0 : Nat) 5)) else undef, bif L 20 then .pointer (some ⟨b1, 5, none⟩) else undef, bif L 21 then .pointer (some ⟨b1, 6, none⟩) else undef, bif L 22 then .int .u8 (y.n1 : Nat) else undef, bif L 23 then .int .u8 (Int.tmod (y.n1 : Nat) 3) else undef, bif L 24 then .int .i64 (IntKind.i64.wrap (Int.tmod (y.n1 : Nat) 3)) else undef, bif L 25 then .pointer (some ⟨b1, 5, none⟩) else undef, bif L 26 then .pointer (some ⟨b1, 7, none⟩) else undef, bif L 27 then .int .u8 (y.n2 : Nat) else undef, bif L 28 then .int .u8 (Int.tmod (y.n2 : Nat) 3) else undef, bif L 29 then .int .i64 (IntKind.i64.wrap (Int.tmod (y.n2 : Nat) 3)) else undef, bif L 30 then .pointer (some ⟨b1, 8, none⟩) else undef, bif L 31 then .agg (#[.int .u8 (y.v0 : Nat), .int .u8 (y.v1 : Nat), .int .u8 (y.v2 : Nat)]) else undef, bif L 32 then .agg (vcA (vecQ y.v0 y.v1 y.v2)) else undef, bif L 33 then .pointer (some ⟨b1, 11, none⟩) else undef, bif L 34 then .pointer (some ⟨b1, 11, none⟩) else undef, bif L 35 then .int .i32 y.k0 else undef, bif L 36 then .int .i64 (IntKind.i64.wrap y.k0) else undef, bif L 37 then .pointer (some ⟨b1, 11, none⟩) else undef, bif L 38 then .pointer (some ⟨b1, 12, none⟩) else undef, bif L 39 then .int .i32 y.k1 else undef, bif L 40 then .int .i64 (IntKind.i64.wrap y.k1) else undef, bif L 41 then .pointer (some ⟨b1, 11, none⟩) else undef, bif L 42 then .pointer (some ⟨b1, 13, none⟩) else undef, bif L 43 then .int .i32 y.k2 else undef, bif L 44 then .int .i64 (IntKind.i64.wrap y.k2) else undef, bif L 45 then .pointer (some ⟨b1, 11, none⟩) else undef, bif L 46 then .pointer (some ⟨b1, 14, none⟩) else undef, bif L 47 then .int .i32 y.k3 else undef, bif L 48 then .int .i64 (IntKind.i64.wrap y.k3) else undef, bif L 49 then .agg (poA (madeQ y)) else undef], defers := [] }
set_option maxRecDepth 100000 in
set_option maxHeartbeats 8000000 in
theorem made_any (y : Lq) (hy : y.ok) (w : World) : Calls Try.prog 8 #[.agg (lqA y)] w fun e w' => e = .returned (poV (madeQ y)) ∧ Below w.heap.size w w' := by
  have K := Lib.hid (Kb.nil w)
  go_enter Try.func8, Try.ntmps8
  go_upto_region 0 with fail
  refine wp_region_lit ?_
  refine kb_box K.out 26 (.tmp 0) (lqA y) rfl rfl (by rfl) ?_
  intro b1 w1 hb1 hk
  have K1 := Lib.hid (show Kb w [(b1, lqA y, 26)] w1 from hk)
  clear hk hb1
  (try simp only [Act.put, gA, gS, gZ, sA, sZ, sS])
  refine kb_alloc K1.out 42 (nil21) rfl z50 (by rfl) ?_
  intro b2 w2 hb2 hk
  have K2 := Lib.hid (show Kb w [(b1, lqA y, 26), (b2, nil21, 42)] w2 from hk)
  clear hk hb2
  (try simp only [Act.put, gA, gS, gZ, sA, sZ, sS])
  refine wpList_nil ?_
  go_upto_region 1 with fail
  refine wp_region_inv_dc (I := fun L ac w' => ac = MadeF y b1 b2 L ∧ Kb w [(b1, lqA y, 26), (b2, bif L 50 then poA (madeQ y) else nil21, 42)] w') (by kernel_rfl) (by kernel_rfl) ⟨by kernel_rfl, K2.out.drew⟩ ?_ ?_
  · intro i hi Lx ac w' hI hL haft hdc
    obtain ⟨rfl, hw⟩ := hI
    match i, hi with
    | 0, _ =>
      have g1 : (MadeF y b1 b2 Lx).tmps[1]?.getD undef = .pointer (some ⟨b1, 0, none⟩) := by kernel_rfl
      have e1 : (MadeF y b1 b2 Lx).eval (.tmp 1) = .pointer (some ⟨b1, 0, none⟩) := by kernel_rfl
      exact i_val rfl (.pointer (some ⟨b1, 0, none⟩)) w' (by rfl) (by go_simp) ⟨by kernel_rfl, hw⟩
    | 1, _ =>
      have h0 := haft 0 (by decide)
      have e3 : (MadeF y b1 b2 Lx).eval (.tmp 3) = .pointer (some ⟨b1, 0, none⟩) := by show (bif Lx 0 then _ else _) = _; rw [h0]; rfl
      have g3 : (MadeF y b1 b2 Lx).tmps[3]?.getD undef = .pointer (some ⟨b1, 0, none⟩) := by show (bif Lx 0 then _ else _) = _; rw [h0]; rfl
      exact i_val rfl (.pointer (some ⟨b1, 0, none⟩)) w' (by rfl) (by go_simp) ⟨by kernel_rfl, hw⟩
    | 2, _ =>
      have h1 := haft 1 (by decide)
      have e4 : (MadeF y b1 b2 Lx).eval (.tmp 4) = .pointer (some ⟨b1, 0, none⟩) := by show (bif Lx 1 then _ else _) = _; rw [h1]; rfl
      have g4 : (MadeF y b1 b2 Lx).tmps[4]?.getD undef = .pointer (some ⟨b1, 0, none⟩) := by show (bif Lx 1 then _ else _) = _; rw [h1]; rfl
      exact i_val rfl (.bool y.f0) w' (by rfl) (by have q : w'.cell? ⟨b1, 0, none⟩ = some (.bool y.f0) := Kb.cell (i := 0) hw rfl (by rfl); go_simp) ⟨by kernel_rfl, hw⟩
    | 3, _ =>
      have g1 : (MadeF y b1 b2 Lx).tmps[1]?.getD undef = .pointer (some ⟨b1, 0, none⟩) := by kernel_rfl
      have e1 : (MadeF y b1 b2 Lx).eval (.tmp 1) = .pointer (some ⟨b1, 0, none⟩) := by kernel_rfl
      exact i_val rfl (.pointer (some ⟨b1, 0, none⟩)) w' (by rfl) (by go_simp) ⟨by kernel_rfl, hw⟩
    | 4, _ =>
      have h3 := haft 3 (by decide)
      have e6 : (MadeF y b1 b2 Lx).eval (.tmp 6) = .pointer (some ⟨b1, 0, none⟩) := by show (bif Lx 3 then _ else _) = _; rw [h3]; rfl
      have g6 : (MadeF y b1 b2 Lx).tmps[6]?.getD undef = .pointer (some ⟨b1, 0, none⟩) := by show (bif Lx 3 then _ else _) = _; rw [h3]; rfl
      exact i_val rfl (.pointer (some ⟨b1, 1, none⟩)) w' (by rfl) (by go_simp) ⟨by kernel_rfl, hw⟩
    | 5, _ =>
      have h4 := haft 4 (by decide)
      have e7 : (MadeF y b1 b2 Lx).eval (.tmp 7) = .pointer (some ⟨b1, 1, none⟩) := by show (bif Lx 4 then _ else _) = _; rw [h4]; rfl
      have g7 : (MadeF y b1 b2 Lx).tmps[7]?.getD undef = .pointer (some ⟨b1, 1, none⟩) := by show (bif Lx 4 then _ else _) = _; rw [h4]; rfl
      exact i_val rfl (.bool y.f1) w' (by rfl) (by have q : w'.cell? ⟨b1, 1, none⟩ = some (.bool y.f1) := Kb.cell (i := 0) hw rfl (by rfl); go_simp) ⟨by kernel_rfl, hw⟩
    | 6, _ =>
      have g1 : (MadeF y b1 b2 Lx).tmps[1]?.getD undef = .pointer (some ⟨b1, 0, none⟩) := by kernel_rfl
      have e1 : (MadeF y b1 b2 Lx).eval (.tmp 1) = .pointer (some ⟨b1, 0, none⟩) := by kernel_rfl
      exact i_val rfl (.pointer (some ⟨b1, 0, none⟩)) w' (by rfl) (by go_simp) ⟨by kernel_rfl, hw⟩
    | 7, _ =>
      have h6 := haft 6 (by decide)
      have e9 : (MadeF y b1 b2 Lx).eval (.tmp 9) = .pointer (some ⟨b1, 0, none⟩) := by show (bif Lx 6 then _ else _) = _; rw [h6]; rfl
      have g9 : (MadeF y b1 b2 Lx).tmps[9]?.getD undef = .pointer (some ⟨b1, 0, none⟩) := by show (bif Lx 6 then _ else _) = _; rw [h6]; rfl
      exact i_val rfl (.pointer (some ⟨b1, 2, none⟩)) w' (by rfl) (by go_simp) ⟨by kernel_rfl, hw⟩
    | 8, _ =>
      have h7 := haft 7 (by decide)
      have e10 : (MadeF y b1 b2 Lx).eval (.tmp 10) = .pointer (some ⟨b1, 2, none⟩) := by show (bif Lx 7 then _ else _) = _; rw [h7]; rfl
      have g10 : (MadeF y b1 b2 Lx).tmps[10]?.getD undef = .pointer (some ⟨b1, 2, none⟩) := by show (bif Lx 7 then _ else _) = _; rw [h7]; rfl
      exact i_val rfl (.bool y.f2) w' (by rfl) (by have q : w'.cell? ⟨b1, 2, none⟩ = some (.bool y.f2) := Kb.cell (i := 0) hw rfl (by rfl); go_simp) ⟨by kernel_rfl, hw⟩
    | 9, _ =>
      have g1 : (MadeF y b1 b2 Lx).tmps[1]?.getD undef = .pointer (some ⟨b1, 0, none⟩) := by kernel_rfl
      have e1 : (MadeF y b1 b2 Lx).eval (.tmp 1) = .pointer (some ⟨b1, 0, none⟩) := by kernel_rfl
      exact i_val rfl (.pointer (some ⟨b1, 0, none⟩)) w' (by rfl) (by go_simp) ⟨by kernel_rfl, hw⟩
    | 10, _ =>
      have h9 := haft 9 (by decide)
      have e12 : (MadeF y b1 b2 Lx).eval (.tmp 12) = .pointer (some ⟨b1, 0, none⟩) := by show (bif Lx 9 then _ else _) = _; rw [h9]; rfl
      have g12 : (MadeF y b1 b2 Lx).tmps[12]?.getD undef = .pointer (some ⟨b1, 0, none⟩) := by show (bif Lx 9 then _ else _) = _; rw [h9]; rfl
      exact i_val rfl (.pointer (some ⟨b1, 3, none⟩)) w' (by rfl) (by go_simp) ⟨by kernel_rfl, hw⟩
    | 11, _ =>
      have h10 := haft 10 (by decide)
      have e13 : (MadeF y b1 b2 Lx).eval (.tmp 13) = .pointer (some ⟨b1, 3, none⟩) := by show (bif Lx 10 then _ else _) = _; rw [h10]; rfl
      have g13 : (MadeF y b1 b2 Lx).tmps[13]?.getD undef = .pointer (some ⟨b1, 3, none⟩) := by show (bif Lx 10 then _ else _) = _; rw [h10]; rfl
      exact i_val rfl (.bool y.f3) w' (by rfl) (by have q : w'.cell? ⟨b1, 3, none⟩ = some (.bool y.f3) := Kb.cell (i := 0) hw rfl (by rfl); go_simp) ⟨by kernel_rfl, hw⟩
    | 12, _ =>
      have g1 : (MadeF y b1 b2 Lx).tmps[1]?.getD undef = .pointer (some ⟨b1, 0, none⟩) := by kernel_rfl
      have e1 : (MadeF y b1 b2 Lx).eval (.tmp 1) = .pointer (some ⟨b1, 0, none⟩) := by kernel_rfl
      exact i_val rfl (.pointer (some ⟨b1, 0, none⟩)) w' (by rfl) (by go_simp) ⟨by kernel_rfl, hw⟩
    | 13, _ =>
      have h12 := haft 12 (by decide)
      have e15 : (MadeF y b1 b2 Lx).eval (.tmp 15) = .pointer (some ⟨b1, 0, none⟩) := by show (bif Lx 12 then _ else _) = _; rw [h12]; rfl
      have g15 : (MadeF y b1 b2 Lx).tmps[15]?.getD undef = .pointer (some ⟨b1, 0, none⟩) := by show (bif Lx 12 then _ else _) = _; rw [h12]; rfl
      exact i_val rfl (.pointer (some ⟨b1, 4, none⟩)) w' (by rfl) (by go_simp) ⟨by kernel_rfl, hw⟩
    | 14, _ =>
      have h13 := haft 13 (by decide)
      have e16 : (MadeF y b1 b2 Lx).eval (.tmp 16) = .pointer (some ⟨b1, 4, none⟩) := by show (bif Lx 13 then _ else _) = _; rw [h13]; rfl
      have g16 : (MadeF y b1 b2 Lx).tmps[16]?.getD undef = .pointer (some ⟨b1, 4, none⟩) := by show (bif Lx 13 then _ else _) = _; rw [h13]; rfl
      exact i_val rfl (.bool y.f4) w' (by rfl) (by have q : w'.cell? ⟨b1, 4, none⟩ = some (.bool y.f4) := Kb.cell (i := 0) hw rfl (by rfl); go_simp) ⟨by kernel_rfl, hw⟩
    | 15, _ =>
      have g1 : (MadeF y b1 b2 Lx).tmps[1]?.getD undef = .pointer (some ⟨b1, 0, none⟩) := by kernel_rfl
      have e1 : (MadeF y b1 b2 Lx).eval (.tmp 1) = .pointer (some ⟨b1, 0, none⟩) := by kernel_rfl
      exact i_val rfl (.pointer (some ⟨b1, 5, none⟩)) w' (by rfl) (by go_simp) ⟨by kernel_rfl, hw⟩
    | 16, _ =>
      have h15 := haft 15 (by decide)
      have e18 : (MadeF y b1 b2 Lx).eval (.tmp 18) = .pointer (some ⟨b1, 5, none⟩) := by show (bif Lx 15 then _ else _) = _; rw [h15]; rfl
      have g18 : (MadeF y b1 b2 Lx).tmps[18]?.getD undef = .pointer (some ⟨b1, 5, none⟩) := by show (bif Lx 15 then _ else _) = _; rw [h15]; rfl
      exact i_val rfl (.pointer (some ⟨b1, 5, none⟩)) w' (by rfl) (by go_simp) ⟨by kernel_rfl, hw⟩
    | 17, _ =>
      have h16 := haft 16 (by decide)
      have e19 : (MadeF y b1 b2 Lx).eval (.tmp 19) = .pointer (some ⟨b1, 5, none⟩) := by show (bif Lx 16 then _ else _) = _; rw [h16]; rfl
      have g19 : (MadeF y b1 b2 Lx).tmps[19]?.getD undef = .pointer (some ⟨b1, 5, none⟩) := by show (bif Lx 16 then _ else _) = _; rw [h16]; rfl
      exact i_val rfl (.int .u8 (y.n0 : Nat)) w' (by rfl) (by have q : w'.cell? ⟨b1, 5, none⟩ = some (.int .u8 (y.n0 : Nat)) := Kb.cell (i := 0) hw rfl (by rfl); go_simp) ⟨by kernel_rfl, hw⟩
    | 18, _ =>
      have h17 := haft 17 (by decide)
      have e20 : (MadeF y b1 b2 Lx).eval (.tmp 20) = .int .u8 (y.n0 : Nat) := by show (bif Lx 17 then _ else _) = _; rw [h17]; rfl
      have g20 : (MadeF y b1 b2 Lx).tmps[20]?.getD undef = .int .u8 (y.n0 : Nat) := by show (bif Lx 17 then _ else _) = _; rw [h17]; rfl
      exact i_val rfl (.int .u8 (Int.tmod (y.n0 : Nat) 5)) w' (by rfl) (by go_simp) ⟨by kernel_rfl, hw⟩
    | 19, _ =>
      have h18 := haft 18 (by decide)
      have e21 : (MadeF y b1 b2 Lx).eval (.tmp 21) = .int .u8 (Int.tmod (y.n0 : Nat) 5) := by show (bif Lx 18 then _ else _) = _; rw [h18]; rfl
      have g21 : (MadeF y b1 b2 Lx).tmps[21]?.getD undef = .int .u8 (Int.tmod (y.n0 : Nat) 5) := by show (bif Lx 18 then _ else _) = _; rw [h18]; rfl
      exact i_val rfl (.int .i64 (IntKind.i64.wrap (Int.tmod (y.n0 : Nat) 5))) w' (by rfl) (by go_simp) ⟨by kernel_rfl, hw⟩
    | 20, _ =>
      have g1 : (MadeF y b1 b2 Lx).tmps[1]?.getD undef = .pointer (some ⟨b1, 0, none⟩) := by kernel_rfl
      have e1 : (MadeF y b1 b2 Lx).eval (.tmp 1) = .pointer (some ⟨b1, 0, none⟩) := by kernel_rfl
      exact i_val rfl (.pointer (some ⟨b1, 5, none⟩)) w' (by rfl) (by go_simp) ⟨by kernel_rfl, hw⟩
    | 21, _ =>
      have h20 := haft 20 (by decide)
      have e23 : (MadeF y b1 b2 Lx).eval (.tmp 23) = .pointer (some ⟨b1, 5, none⟩) := by show (bif Lx 20 then _ else _) = _; rw [h20]; rfl
      have g23 : (MadeF y b1 b2 Lx).tmps[23]?.getD undef = .pointer (some ⟨b1, 5, none⟩) := by show (bif Lx 20 then _ else _) = _; rw [h20]; rfl
      exact i_val rfl (.pointer (some ⟨b1, 6, none⟩)) w' (by rfl) (by go_simp) ⟨by kernel_rfl, hw⟩
    | 22, _ =>
      have h21 := haft 21 (by decide)
      have e24 : (MadeF y b1 b2 Lx).eval (.tmp 24) = .pointer (some ⟨b1, 6, none⟩) := by show (bif Lx 21 then _ else _) = _; rw [h21]; rfl
      have g24 : (MadeF y b1 b2 Lx).tmps[24]?.getD undef = .pointer (some ⟨b1, 6, none⟩) := by show (bif Lx 21 then _ else _) = _; rw [h21]; rfl
      exact i_val rfl (.int .u8 (y.n1 : Nat)) w' (by rfl) (by have q : w'.cell? ⟨b1, 6, none⟩ = some (.int .u8 (y.n1 : Nat)) := Kb.cell (i := 0) hw rfl (by rfl); go_simp) ⟨by kernel_rfl, hw⟩
    | 23, _ =>
      have h22 := haft 22 (by decide)
      have e25 : (MadeF y b1 b2 Lx).eval (.tmp 25) = .int .u8 (y.n1 : Nat) := by show (bif Lx 22 then _ else _) = _; rw [h22]; rfl
      have g25 : (MadeF y b1 b2 Lx).tmps[25]?.getD undef = .int .u8 (y.n1 : Nat) := by show (bif Lx 22 then _ else _) = _; rw [h22]; rfl
      exact i_val rfl (.int .u8 (Int.tmod (y.n1 : Nat) 3)) w' (by rfl) (by go_simp) ⟨by kernel_rfl, hw⟩
    | 24, _ =>
      have h23 := haft 23 (by decide)
      have e26 : (MadeF y b1 b2 Lx).eval (.tmp 26) = .int .u8 (Int.tmod (y.n1 : Nat) 3) := by show (bif Lx 23 then _ else _) = _; rw [h23]; rfl
      have g26 : (MadeF y b1 b2 Lx).tmps[26]?.getD undef = .int .u8 (Int.tmod (y.n1 : Nat) 3) := by show (bif Lx 23 then _ else _) = _; rw [h23]; rfl
      exact i_val rfl (.int .i64 (IntKind.i64.wrap (Int.tmod (y.n1 : Nat) 3))) w' (by rfl) (by go_simp) ⟨by kernel_rfl, hw⟩
    | 25, _ =>
      have g1 : (MadeF y b1 b2 Lx).tmps[1]?.getD undef = .pointer (some ⟨b1, 0, none⟩) := by kernel_rfl
      have e1 : (MadeF y b1 b2 Lx).eval (.tmp 1) = .pointer (some ⟨b1, 0, none⟩) := by kernel_rfl
      exact i_val rfl (.pointer (some ⟨b1, 5, none⟩)) w' (by rfl) (by go_simp) ⟨by kernel_rfl, hw⟩
    | 26, _ =>
      have h25 := haft 25 (by decide)
      have e28 : (MadeF y b1 b2 Lx).eval (.tmp 28) = .pointer (some ⟨b1, 5, none⟩) := by show (bif Lx 25 then _ else _) = _; rw [h25]; rfl
      have g28 : (MadeF y b1 b2 Lx).tmps[28]?.getD undef = .pointer (some ⟨b1, 5, none⟩) := by show (bif Lx 25 then _ else _) = _; rw [h25]; rfl
      exact i_val rfl (.pointer (some ⟨b1, 7, none⟩)) w' (by rfl) (by go_simp) ⟨by kernel_rfl, hw⟩
    | 27, _ =>
      have h26 := haft 26 (by decide)
      have e29 : (MadeF y b1 b2 Lx).eval (.tmp 29) = .pointer (some ⟨b1, 7, none⟩) := by show (bif Lx 26 then _ else _) = _; rw [h26]; rfl
      have g29 : (MadeF y b1 b2 Lx).tmps[29]?.getD undef = .pointer (some ⟨b1, 7, none⟩) := by show (bif Lx 26 then _ else _) = _; rw [h26]; rfl
      exact i_val rfl (.int .u8 (y.n2 : Nat)) w' (by rfl) (by have q : w'.cell? ⟨b1, 7, none⟩ = some (.int .u8 (y.n2 : Nat)) := Kb.cell (i := 0) hw rfl (by rfl); go_simp) ⟨by kernel_rfl, hw⟩
    | 28, _ =>
      have h27 := haft 27 (by decide)
      have e30 : (MadeF y b1 b2 Lx).eval (.tmp 30) = .int .u8 (y.n2 : Nat) := by show (bif Lx 27 then _ else _) = _; rw [h27]; rfl
      have g30 : (MadeF y b1 b2 Lx).tmps[30]?.getD undef = .int .u8 (y.n2 : Nat) := by show (bif Lx 27 then _ else _) = _; rw [h27]; rfl
      exact i_val rfl (.int .u8 (Int.tmod (y.n2 : Nat) 3)) w' (by rfl) (by go_simp) ⟨by kernel_rfl, hw⟩
    | 29, _ =>
      have h28 := haft 28 (by decide)
      have e31 : (MadeF y b1 b2 Lx).eval (.tmp 31) = .int .u8 (Int.tmod (y.n2 : Nat) 3) := by show (bif Lx 28 then _ else _) = _; rw [h28]; rfl
      have g31 : (MadeF y b1 b2 Lx).tmps[31]?.getD undef = .int .u8 (Int.tmod (y.n2 : Nat) 3) := by show (bif Lx 28 then _ else _) = _; rw [h28]; rfl
      exact i_val rfl (.int .i64 (IntKind.i64.wrap (Int.tmod (y.n2 : Nat) 3))) w' (by rfl) (by go_simp) ⟨by kernel_rfl, hw⟩
    | 30, _ =>
      have g1 : (MadeF y b1 b2 Lx).tmps[1]?.getD undef = .pointer (some ⟨b1, 0, none⟩) := by kernel_rfl
      have e1 : (MadeF y b1 b2 Lx).eval (.tmp 1) = .pointer (some ⟨b1, 0, none⟩) := by kernel_rfl
      exact i_val rfl (.pointer (some ⟨b1, 8, none⟩)) w' (by rfl) (by go_simp) ⟨by kernel_rfl, hw⟩
    | 31, _ =>
      have h30 := haft 30 (by decide)
      have e33 : (MadeF y b1 b2 Lx).eval (.tmp 33) = .pointer (some ⟨b1, 8, none⟩) := by show (bif Lx 30 then _ else _) = _; rw [h30]; rfl
      have g33 : (MadeF y b1 b2 Lx).tmps[33]?.getD undef = .pointer (some ⟨b1, 8, none⟩) := by show (bif Lx 30 then _ else _) = _; rw [h30]; rfl
      exact i_val rfl (.agg (#[.int .u8 (y.v0 : Nat), .int .u8 (y.v1 : Nat), .int .u8 (y.v2 : Nat)])) w' (by rfl) (kb_part hw 0 rfl 23 _ 8 (#[.int .u8 (y.v0 : Nat), .int .u8 (y.v1 : Nat), .int .u8 (y.v2 : Nat)]).toList rfl e33 (part_of (by kernel_rfl)) Try.underlying23 rfl (sizeA3)) ⟨by kernel_rfl, hw⟩
    | 32, _ =>
      have h31 := haft 31 (by decide)
      have e34 : (MadeF y b1 b2 Lx).eval (.tmp 34) = .agg (#[.int .u8 (y.v0 : Nat), .int .u8 (y.v1 : Nat), .int .u8 (y.v2 : Nat)]) := by show (bif Lx 31 then _ else _) = _; rw [h31]; rfl
      have g34 : (MadeF y b1 b2 Lx).tmps[34]?.getD undef = .agg (#[.int .u8 (y.v0 : Nat), .int .u8 (y.v1 : Nat), .int .u8 (y.v2 : Nat)]) := by show (bif Lx 31 then _ else _) = _; rw [h31]; rfl
      exact i_call rfl (.agg (vcA (vecQ y.v0 y.v1 y.v2))) 7 #[.agg (#[.int .u8 (y.v0 : Nat), .int .u8 (y.v1 : Nat), .int .u8 (y.v2 : Nat)])] (fun w2 => Below w'.heap.size w' w2) (by rfl) (by go_simp) (vec_any y.v0 y.v1 y.v2 hy.h0 hy.h1 hy.h2 w') (fun w2 hb => ⟨by kernel_rfl, hw.next hb⟩)
    | 33, _ =>
      have g1 : (MadeF y b1 b2 Lx).tmps[1]?.getD undef = .pointer (some ⟨b1, 0, none⟩) := by kernel_rfl
      have e1 : (MadeF y b1 b2 Lx).eval (.tmp 1) = .pointer (some ⟨b1, 0, none⟩) := by kernel_rfl
      exact i_val rfl (.pointer (some ⟨b1, 11, none⟩)) w' (by rfl) (by go_simp) ⟨by kernel_rfl, hw⟩
    | 34, _ =>
      have h33 := haft 33 (by decide)
      have e36 : (MadeF y b1 b2 Lx).eval (.tmp 36) = .pointer (some ⟨b1, 11, none⟩) := by show (bif Lx 33 then _ else _) = _; rw [h33]; rfl
      have g36 : (MadeF y b1 b2 Lx).tmps[36]?.getD undef = .pointer (some ⟨b1, 11, none⟩) := by show (bif Lx 33 then _ else _) = _; rw [h33]; rfl
      exact i_val rfl (.pointer (some ⟨b1, 11, none⟩)) w' (by rfl) (by go_simp) ⟨by kernel_rfl, hw⟩
    | 35, _ =>
      have h34 := haft 34 (by decide)
      have e37 : (MadeF y b1 b2 Lx).eval (.tmp 37) = .pointer (some ⟨b1, 11, none⟩) := by show (bif Lx 34 then _ else _) = _; rw [h34]; rfl
      have g37 : (MadeF y b1 b2 Lx).tmps[37]?.getD undef = .pointer (some ⟨b1, 11, none⟩) := by show (bif Lx 34 then _ else _) = _; rw [h34]; rfl
      exact i_val rfl (.int .i32 y.k0) w' (by rfl) (by have q : w'.cell? ⟨b1, 11, none⟩ = some (.int .i32 y.k0) := Kb.cell (i := 0) hw rfl (by rfl); go_simp) ⟨by kernel_rfl, hw⟩
    | 36, _ =>
      have h35 := haft 35 (by decide)
      have e38 : (MadeF y b1 b2 Lx).eval (.tmp 38) = .int .i32 y.k0 := by show (bif Lx 35 then _ else _) = _; rw [h35]; rfl
      have g38 : (MadeF y b1 b2 Lx).tmps[38]?.getD undef = .int .i32 y.k0 := by show (bif Lx 35 then _ else _) = _; rw [h35]; rfl
      exact i_val rfl (.int .i64 (IntKind.i64.wrap y.k0)) w' (by rfl) (by go_simp) ⟨by kernel_rfl, hw⟩
    | 37, _ =>
      have g1 : (MadeF y b1 b2 Lx).tmps[1]?.getD undef = .pointer (some ⟨b1, 0, none⟩) := by kernel_rfl
      have e1 : (MadeF y b1 b2 Lx).eval (.tmp 1) = .pointer (some ⟨b1, 0, none⟩) := by kernel_rfl
      exact i_val rfl (.pointer (some ⟨b1, 11, none⟩)) w' (by rfl) (by go_simp) ⟨by kernel_rfl, hw⟩
    | 38, _ =>
      have h37 := haft 37 (by decide)
      have e40 : (MadeF y b1 b2 Lx).eval (.tmp 40) = .pointer (some ⟨b1, 11, none⟩) := by show (bif Lx 37 then _ else _) = _; rw [h37]; rfl
      have g40 : (MadeF y b1 b2 Lx).tmps[40]?.getD undef = .pointer (some ⟨b1, 11, none⟩) := by show (bif Lx 37 then _ else _) = _; rw [h37]; rfl
      exact i_val rfl (.pointer (some ⟨b1, 12, none⟩)) w' (by rfl) (by go_simp) ⟨by kernel_rfl, hw⟩
    | 39, _ =>
      have h38 := haft 38 (by decide)
      have e41 : (MadeF y b1 b2 Lx).eval (.tmp 41) = .pointer (some ⟨b1, 12, none⟩) := by show (bif Lx 38 then _ else _) = _; rw [h38]; rfl
      have g41 : (MadeF y b1 b2 Lx).tmps[41]?.getD undef = .pointer (some ⟨b1, 12, none⟩) := by show (bif Lx 38 then _ else _) = _; rw [h38]; rfl
      exact i_val rfl (.int .i32 y.k1) w' (by rfl) (by have q : w'.cell? ⟨b1, 12, none⟩ = some (.int .i32 y.k1) := Kb.cell (i := 0) hw rfl (by rfl); go_simp) ⟨by kernel_rfl, hw⟩
    | 40, _ =>
      have h39 := haft 39 (by decide)
      have e42 : (MadeF y b1 b2 Lx).eval (.tmp 42) = .int .i32 y.k1 := by show (bif Lx 39 then _ else _) = _; rw [h39]; rfl
      have g42 : (MadeF y b1 b2 Lx).tmps[42]?.getD undef = .int .i32 y.k1 := by show (bif Lx 39 then _ else _) = _; rw [h39]; rfl
      exact i_val rfl (.int .i64 (IntKind.i64.wrap y.k1)) w' (by rfl) (by go_simp) ⟨by kernel_rfl, hw⟩
    | 41, _ =>
      have g1 : (MadeF y b1 b2 Lx).tmps[1]?.getD undef = .pointer (some ⟨b1, 0, none⟩) := by kernel_rfl
      have e1 : (MadeF y b1 b2 Lx).eval (.tmp 1) = .pointer (some ⟨b1, 0, none⟩) := by kernel_rfl
      exact i_val rfl (.pointer (some ⟨b1, 11, none⟩)) w' (by rfl) (by go_simp) ⟨by kernel_rfl, hw⟩
    | 42, _ =>
      have h41 := haft 41 (by decide)
      have e44 : (MadeF y b1 b2 Lx).eval (.tmp 44) = .pointer (some ⟨b1, 11, none⟩) := by show (bif Lx 41 then _ else _) = _; rw [h41]; rfl
      have g44 : (MadeF y b1 b2 Lx).tmps[44]?.getD undef = .pointer (some ⟨b1, 11, none⟩) := by show (bif Lx 41 then _ else _) = _; rw [h41]; rfl
      exact i_val rfl (.pointer (some ⟨b1, 13, none⟩)) w' (by rfl) (by go_simp) ⟨by kernel_rfl, hw⟩
    | 43, _ =>
      have h42 := haft 42 (by decide)
      have e45 : (MadeF y b1 b2 Lx).eval (.tmp 45) = .pointer (some ⟨b1, 13, none⟩) := by show (bif Lx 42 then _ else _) = _; rw [h42]; rfl
      have g45 : (MadeF y b1 b2 Lx).tmps[45]?.getD undef = .pointer (some ⟨b1, 13, none⟩) := by show (bif Lx 42 then _ else _) = _; rw [h42]; rfl
      exact i_val rfl (.int .i32 y.k2) w' (by rfl) (by have q : w'.cell? ⟨b1, 13, none⟩ = some (.int .i32 y.k2) := Kb.cell (i := 0) hw rfl (by rfl); go_simp) ⟨by kernel_rfl, hw⟩
    | 44, _ =>
      have h43 := haft 43 (by decide)
      have e46 : (MadeF y b1 b2 Lx).eval (.tmp 46) = .int .i32 y.k2 := by show (bif Lx 43 then _ else _) = _; rw [h43]; rfl
      have g46 : (MadeF y b1 b2 Lx).tmps[46]?.getD undef = .int .i32 y.k2 := by show (bif Lx 43 then _ else _) = _; rw [h43]; rfl
      exact i_val rfl (.int .i64 (IntKind.i64.wrap y.k2)) w' (by rfl) (by go_simp) ⟨by kernel_rfl, hw⟩
    | 45, _ =>
      have g1 : (MadeF y b1 b2 Lx).tmps[1]?.getD undef = .pointer (some ⟨b1, 0, none⟩) := by kernel_rfl
      have e1 : (MadeF y b1 b2 Lx).eval (.tmp 1) = .pointer (some ⟨b1, 0, none⟩) := by kernel_rfl
      exact i_val rfl (.pointer (some ⟨b1, 11, none⟩)) w' (by rfl) (by go_simp) ⟨by kernel_rfl, hw⟩
    | 46, _ =>
      have h45 := haft 45 (by decide)
      have e48 : (MadeF y b1 b2 Lx).eval (.tmp 48) = .pointer (some ⟨b1, 11, none⟩) := by show (bif Lx 45 then _ else _) = _; rw [h45]; rfl
      have g48 : (MadeF y b1 b2 Lx).tmps[48]?.getD undef = .pointer (some ⟨b1, 11, none⟩) := by show (bif Lx 45 then _ else _) = _; rw [h45]; rfl
      exact i_val rfl (.pointer (some ⟨b1, 14, none⟩)) w' (by rfl) (by go_simp) ⟨by kernel_rfl, hw⟩
    | 47, _ =>
      have h46 := haft 46 (by decide)
      have e49 : (MadeF y b1 b2 Lx).eval (.tmp 49) = .pointer (some ⟨b1, 14, none⟩) := by show (bif Lx 46 then _ else _) = _; rw [h46]; rfl
      have g49 : (MadeF y b1 b2 Lx).tmps[49]?.getD undef = .pointer (some ⟨b1, 14, none⟩) := by show (bif Lx 46 then _ else _) = _; rw [h46]; rfl
      exact i_val rfl (.int .i32 y.k3) w' (by rfl) (by have q : w'.cell? ⟨b1, 14, none⟩ = some (.int .i32 y.k3) := Kb.cell (i := 0) hw rfl (by rfl); go_simp) ⟨by kernel_rfl, hw⟩
    | 48, _ =>
      have h47 := haft 47 (by decide)
      have e50 : (MadeF y b1 b2 Lx).eval (.tmp 50) = .int .i32 y.k3 := by show (bif Lx 47 then _ else _) = _; rw [h47]; rfl
      have g50 : (MadeF y b1 b2 Lx).tmps[50]?.getD undef = .int .i32 y.k3 := by show (bif Lx 47 then _ else _) = _; rw [h47]; rfl
      exact i_val rfl (.int .i64 (IntKind.i64.wrap y.k3)) w' (by rfl) (by go_simp) ⟨by kernel_rfl, hw⟩
    | 49, _ =>
      have h2 := haft 2 (by decide)
      have e5 : (MadeF y b1 b2 Lx).eval (.tmp 5) = .bool y.f0 := by show (bif Lx 2 then _ else _) = _; rw [h2]; rfl
      have g5 : (MadeF y b1 b2 Lx).tmps[5]?.getD undef = .bool y.f0 := by show (bif Lx 2 then _ else _) = _; rw [h2]; rfl
      have h5 := haft 5 (by decide)
      have e8 : (MadeF y b1 b2 Lx).eval (.tmp 8) = .bool y.f1 := by show (bif Lx 5 then _ else _) = _; rw [h5]; rfl
      have g8 : (MadeF y b1 b2 Lx).tmps[8]?.getD undef = .bool y.f1 := by show (bif Lx 5 then _ else _) = _; rw [h5]; rfl
      have h8 := haft 8 (by decide)
      have e11 : (MadeF y b1 b2 Lx).eval (.tmp 11) = .bool y.f2 := by show (bif Lx 8 then _ else _) = _; rw [h8]; rfl
      have g11 : (MadeF y b1 b2 Lx).tmps[11]?.getD undef = .bool y.f2 := by show (bif Lx 8 then _ else _) = _; rw [h8]; rfl
      have h11 := haft 11 (by decide)
      have e14 : (MadeF y b1 b2 Lx).eval (.tmp 14) = .bool y.f3 := by show (bif Lx 11 then _ else _) = _; rw [h11]; rfl
      have g14 : (MadeF y b1 b2 Lx).tmps[14]?.getD undef = .bool y.f3 := by show (bif Lx 11 then _ else _) = _; rw [h11]; rfl
      have h14 := haft 14 (by decide)
      have e17 : (MadeF y b1 b2 Lx).eval (.tmp 17) = .bool y.f4 := by show (bif Lx 14 then _ else _) = _; rw [h14]; rfl
      have g17 : (MadeF y b1 b2 Lx).tmps[17]?.getD undef = .bool y.f4 := by show (bif Lx 14 then _ else _) = _; rw [h14]; rfl
      have h19 := haft 19 (by decide)
      have e22 : (MadeF y b1 b2 Lx).eval (.tmp 22) = .int .i64 (IntKind.i64.wrap (Int.tmod (y.n0 : Nat) 5)) := by show (bif Lx 19 then _ else _) = _; rw [h19]; rfl
      have g22 : (MadeF y b1 b2 Lx).tmps[22]?.getD undef = .int .i64 (IntKind.i64.wrap (Int.tmod (y.n0 : Nat) 5)) := by show (bif Lx 19 then _ else _) = _; rw [h19]; rfl
      have h24 := haft 24 (by decide)
      have e27 : (MadeF y b1 b2 Lx).eval (.tmp 27) = .int .i64 (IntKind.i64.wrap (Int.tmod (y.n1 : Nat) 3)) := by show (bif Lx 24 then _ else _) = _; rw [h24]; rfl
      have g27 : (MadeF y b1 b2 Lx).tmps[27]?.getD undef = .int .i64 (IntKind.i64.wrap (Int.tmod (y.n1 : Nat) 3)) := by show (bif Lx 24 then _ else _) = _; rw [h24]; rfl
      have h29 := haft 29 (by decide)
      have e32 : (MadeF y b1 b2 Lx).eval (.tmp 32) = .int .i64 (IntKind.i64.wrap (Int.tmod (y.n2 : Nat) 3)) := by show (bif Lx 29 then _ else _) = _; rw [h29]; rfl
      have g32 : (MadeF y b1 b2 Lx).tmps[32]?.getD undef = .int .i64 (IntKind.i64.wrap (Int.tmod (y.n2 : Nat) 3)) := by show (bif Lx 29 then _ else _) = _; rw [h29]; rfl
      have h32 := haft 32 (by decide)
      have e35 : (MadeF y b1 b2 Lx).eval (.tmp 35) = .agg (vcA (vecQ y.v0 y.v1 y.v2)) := by show (bif Lx 32 then _ else _) = _; rw [h32]; rfl
      have g35 : (MadeF y b1 b2 Lx).tmps[35]?.getD undef = .agg (vcA (vecQ y.v0 y.v1 y.v2)) := by show (bif Lx 32 then _ else _) = _; rw [h32]; rfl
      have h36 := haft 36 (by decide)
      have e39 : (MadeF y b1 b2 Lx).eval (.tmp 39) = .int .i64 (IntKind.i64.wrap y.k0) := by show (bif Lx 36 then _ else _) = _; rw [h36]; rfl
      have g39 : (MadeF y b1 b2 Lx).tmps[39]?.getD undef = .int .i64 (IntKind.i64.wrap y.k0) := by show (bif Lx 36 then _ else _) = _; rw [h36]; rfl
      have h40 := haft 40 (by decide)
      have e43 : (MadeF y b1 b2 Lx).eval (.tmp 43) = .int .i64 (IntKind.i64.wrap y.k1) := by show (bif Lx 40 then _ else _) = _; rw [h40]; rfl
      have g43 : (MadeF y b1 b2 Lx).tmps[43]?.getD undef = .int .i64 (IntKind.i64.wrap y.k1) := by show (bif Lx 40 then _ else _) = _; rw [h40]; rfl
      have h44 := haft 44 (by decide)
      have e47 : (MadeF y b1 b2 Lx).eval (.tmp 47) = .int .i64 (IntKind.i64.wrap y.k2) := by show (bif Lx 44 then _ else _) = _; rw [h44]; rfl
      have g47 : (MadeF y b1 b2 Lx).tmps[47]?.getD undef = .int .i64 (IntKind.i64.wrap y.k2) := by show (bif Lx 44 then _ else _) = _; rw [h44]; rfl
      have h48 := haft 48 (by decide)
      have e51 : (MadeF y b1 b2 Lx).eval (.tmp 51) = .int .i64 (IntKind.i64.wrap y.k3) := by show (bif Lx 48 then _ else _) = _; rw [h48]; rfl
      have g51 : (MadeF y b1 b2 Lx).tmps[51]?.getD undef = .int .i64 (IntKind.i64.wrap y.k3) := by show (bif Lx 48 then _ else _) = _; rw [h48]; rfl
      exact i_val rfl (.agg (poA (madeQ y))) w' (by rfl) (run_build_of 42 [(5, .tmp 5), (4, .tmp 8), (6, .tmp 11), (7, .tmp 14), (3, .tmp 17), (8, .tmp 22), (9, .tmp 27), (10, .tmp 32), (11, .tmp 35), (12, .tmp 39), (13, .tmp 43), (14, .tmp 47), (15, .tmp 51)] rfl _ (poA (madeQ y)) (by simp only [List.map_cons, List.map_nil, e5, e8, e11, e14, e17, e22, e27, e32, e35, e39, e43, e47, e51]; rfl) (by kernel_rfl)) ⟨by kernel_rfl, hw⟩
    | 50, _ =>
      have g2 : (MadeF y b1 b2 Lx).tmps[2]?.getD undef = .pointer (some ⟨b2, 0, none⟩) := by kernel_rfl
      have e2 : (MadeF y b1 b2 Lx).eval (.tmp 2) = .pointer (some ⟨b2, 0, none⟩) := by kernel_rfl
      have h49 := haft 49 (by decide)
      have e52 : (MadeF y b1 b2 Lx).eval (.tmp 52) = .agg (poA (madeQ y)) := by show (bif Lx 49 then _ else _) = _; rw [h49]; rfl
      have g52 : (MadeF y b1 b2 Lx).tmps[52]?.getD undef = .agg (poA (madeQ y)) := by show (bif Lx 49 then _ else _) = _; rw [h49]; rfl
      exact i_wp rfl (by rfl) (wp_store_row 42 _ _ rfl b2 (poA (madeQ y)) e2 e52 42 (bif Lx 50 then poA (madeQ y) else nil21) (Kb.at (i := 1) hw rfl) (size50) (by rw [hL]; rfl) (po_all _) ⟨by kernel_rfl, cast_blk (Kb.row (i := 1) hw rfl (poA (madeQ y))) (by rfl)⟩)
    | k + 51, h =>
      exfalso
      have h2 : k + 51 < 51 := h
      omega
  intro Lx ac w3 hI hall
  obtain ⟨rfl, hw⟩ := hI
  have hfr : MadeF y b1 b2 Lx = { tmps := #[.agg (lqA y), .pointer (some ⟨b1, 0, none⟩), .pointer (some ⟨b2, 0, none⟩), .pointer (some ⟨b1, 0, none⟩), .pointer (some ⟨b1, 0, none⟩), .bool y.f0, .pointer (some ⟨b1, 0, none⟩), .pointer (some ⟨b1, 1, none⟩), .bool y.f1, .pointer (some ⟨b1, 0, none⟩), .pointer (some ⟨b1, 2, none⟩), .bool y.f2, .pointer (some ⟨b1, 0, none⟩), .pointer (some ⟨b1, 3, none⟩), .bool y.f3, .pointer (some ⟨b1, 0, none⟩), .pointer (some ⟨b1, 4, none⟩), .bool y.f4, .pointer (some ⟨b1, 5, none⟩), .pointer (some ⟨b1, 5, none⟩), .int .u8 (y.n0 : Nat), .int .u8 (Int.tmod (y.n0 : Nat) 5), .int .i64 (IntKind.i64.wrap (Int.tmod (y.n0 : Nat) 5)), .pointer (some ⟨b1, 5, none⟩), .pointer (some ⟨b1, 6, none⟩), .int .u8 (y.n1 : Nat), .int .u8 (Int.tmod (y.n1 : Nat) 3), .int .i64 (IntKind.i64.wrap (Int.tmod (y.n1 : Nat) 3)), .pointer (some ⟨b1, 5, none⟩), .pointer (some ⟨b1, 7, none⟩), .int .u8 (y.n2 : Nat), .int .u8 (Int.tmod (y.n2 : Nat) 3), .int .i64 (IntKind.i64.wrap (Int.tmod (y.n2 : Nat) 3)), .pointer (some ⟨b1, 8, none⟩), .agg (#[.int .u8 (y.v0 : Nat), .int .u8 (y.v1 : Nat), .int .u8 (y.v2 : Nat)]), .agg (vcA (vecQ y.v0 y.v1 y.v2)), .pointer (some ⟨b1, 11, none⟩), .pointer (some ⟨b1, 11, none⟩), .int .i32 y.k0, .int .i64 (IntKind.i64.wrap y.k0), .pointer (some ⟨b1, 11, none⟩), .pointer (some ⟨b1, 12, none⟩), .int .i32 y.k1, .int .i64 (IntKind.i64.wrap y.k1), .pointer (some ⟨b1, 11, none⟩), .pointer (some ⟨b1, 13, none⟩), .int .i32 y.k2, .int .i64 (IntKind.i64.wrap y.k2), .pointer (some ⟨b1, 11, none⟩), .pointer (some ⟨b1, 14, none⟩), .int .i32 y.k3, .int .i64 (IntKind.i64.wrap y.k3), .agg (poA (madeQ y))], defers := [] } := by unfold MadeF; simp only [hall 0 (by decide), hall 1 (by decide), hall 2 (by decide), hall 3 (by decide), hall 4 (by decide), hall 5 (by decide), hall 6 (by decide), hall 7 (by decide), hall 8 (by decide), hall 9 (by decide), hall 10 (by decide), hall 11 (by decide), hall 12 (by decide), hall 13 (by decide), hall 14 (by decide), hall 15 (by decide), hall 16 (by decide), hall 17 (by decide), hall 18 (by decide), hall 19 (by decide), hall 20 (by decide), hall 21 (by decide), hall 22 (by decide), hall 23 (by decide), hall 24 (by decide), hall 25 (by decide), hall 26 (by decide), hall 27 (by decide), hall 28 (by decide), hall 29 (by decide), hall 30 (by decide), hall 31 (by decide), hall 32 (by decide), hall 33 (by decide), hall 34 (by decide), hall 35 (by decide), hall 36 (by decide), hall 37 (by decide), hall 38 (by decide), hall 39 (by decide), hall 40 (by decide), hall 41 (by decide), hall 42 (by decide), hall 43 (by decide), hall 44 (by decide), hall 45 (by decide), hall 46 (by decide), hall 47 (by decide), hall 48 (by decide), hall 49 (by decide), cond_true]
  rw [hfr]
  clear hfr
  have hL50 := hall 50 (by decide)
  simp only [hL50, cond_true] at hw
  have K3 := Lib.hid (show Kb w [(b1, lqA y, 26), (b2, poA (madeQ y), 42)] w3 from hw)
  clear hw hall hL50
  go_wp2_with fail
  refine bodyPost_ret (v := .agg (poA (madeQ y))) (results_cell_row Try.results8 _ _ b2 42 (poA (madeQ y)) (0, 0) _ rfl (K3.out.at (i := 1) rfl) Try.underlying42 rfl (po_info _)) rfl ?_
  exact ⟨rfl, K3.out.below⟩
theorem made_is (y : Lq) (hy : y.ok) (q : Po) (h : madeQ y = q) (w : World) : Calls Try.prog 8 #[.agg (lqA y)] w fun e w' => e = .returned (poV q) ∧ Below w.heap.size w w' := h ▸ made_any y hy w
/-- The slots, while the region runs. -/
def SpF  (b1 : Nat) (L : Nat → Bool) (v2 : Value) : Act := { tmps := #[.bool false, .pointer (some ⟨b1, 0, none⟩), v2, bif L 11 then .bool true else undef, bif L 12 then .bool false else undef, undef, undef, .agg (cfA ⟨0, 0, 0, 2, 0, 0⟩), bif L 5 then .tuple #[.agg (poA ⟨0, 0, false, 0, 0, false, false, false, false, false, 4, 0, 1, 1, 2, 3, 0, 0, 0, 2, 0⟩), .bool true, .bool false] else undef, bif L 0 then .agg (poA ⟨0, 0, false, 0, 0, false, false, false, false, false, 0, 0, 0, 0, 0, 0, 0, 0, 0, 0, 0⟩) else undef, bif L 1 then .agg (#[.int .u8 1, .int .u8 2, .int .u8 3]) else undef, bif L 2 then .agg (vcA ⟨1, 2, 3, 0⟩) else undef, bif L 3 then .agg (cfA ⟨0, 0, 0, 2, 0, 0⟩) else undef, bif L 4 then .tuple #[.agg (poA ⟨0, 0, false, 0, 0, false, false, false, false, false, 4, 0, 1, 1, 2, 3, 0, 0, 0, 2, 0⟩), .bool true, .bool false] else undef, bif L 6 then .agg (poA ⟨0, 0, false, 0, 0, false, false, false, false, false, 4, 0, 1, 1, 2, 3, 0, 0, 0, 2, 0⟩) else undef, bif L 7 then .bool true else undef, bif L 8 then .bool false else undef, undef, undef, undef, undef, undef, undef, undef, undef, undef, undef, undef, undef, undef, undef, undef, undef, undef, undef, undef, undef, undef, undef, undef, undef, undef, undef, undef, undef, undef, undef, undef, undef], defers := [] }
set_option maxRecDepth 100000 in
set_option maxHeartbeats 8000000 in
theorem speaks_any (w : World) : Calls Try.prog 6 #[] w fun e w' => e = .returned (.bool true) ∧ Below w.heap.size w w' := by
  have K := Lib.hid (Kb.nil w)
  go_enter Try.func6, Try.ntmps6
  go_upto_region 0 with fail
  refine wp_region_lit ?_
  refine wv (.bool false) ?_
  (try simp only [Act.put, gA, gS, gZ, sA, sZ, sS])
  refine wpList_nil ?_
  go_upto_region 1 with fail
  refine wp_region_lit ?_
  refine wv (.agg (cfA ⟨0, 0, 0, 2, 0, 0⟩)) ?_ (hrun := run_build_of 38 [(3, .const (.int .i64 2))] rfl _ (cfA ⟨0, 0, 0, 2, 0, 0⟩) rfl (by kernel_rfl))
  (try simp only [Act.put, gA, gS, gZ, sA, sZ, sS])
  refine kb_alloc K.out 38 (nil6) rfl zC (by rfl) ?_
  intro b1 w1 hb1 hk
  have K1 := Lib.hid (show Kb w [(b1, nil6, 38)] w1 from hk)
  clear hk hb1
  (try simp only [Act.put, gA, gS, gZ, sA, sZ, sS])
  refine kb_row K1.out 0 rfl 38 _ _ (cfA ⟨0, 0, 0, 2, 0, 0⟩) rfl rfl rfl rfl (size34) (by rfl) (by kernel_rfl) ?_
  intro w2 hk
  have K2 := Lib.hid (show Kb w [(b1, cfA ⟨0, 0, 0, 2, 0, 0⟩, 38)] w2 from hk)
  clear hk
  (try simp only [Act.put, gA, gS, gZ, sA, sZ, sS])
  refine wpList_nil ?_
  go_upto_region 2 with fail
  refine wp_region_inv (I := fun L ac w' => ∃ (v2 : Value), ac = SpF b1 L v2 ∧ W2 w2 42 62 21 21 (poA ⟨0, 0, false, 0, 0, false, false, false, false, false, 4, 0, 1, 1, 2, 3, 0, 0, 0, 2, 0⟩) (#[]) (L 9) false (L 10) false v2 undef w') (by kernel_rfl) (by kernel_rfl) ⟨undef, by kernel_rfl, W2.start _⟩ ?_ ?_
  · intro i hi Lx ac w' hI hL haft
    obtain ⟨v2, rfl, hw⟩ := hI
    match i, hi with
    | 0, _ =>
      exact i_val rfl (.agg (poA ⟨0, 0, false, 0, 0, false, false, false, false, false, 0, 0, 0, 0, 0, 0, 0, 0, 0, 0, 0⟩)) w' (by rfl) (run_build_of 42 [] rfl [] (poA ⟨0, 0, false, 0, 0, false, false, false, false, false, 0, 0, 0, 0, 0, 0, 0, 0, 0, 0, 0⟩) rfl (by kernel_rfl)) ⟨v2, by kernel_rfl, hw⟩
    | 1, _ =>
      exact i_val rfl (.agg (#[.int .u8 1, .int .u8 2, .int .u8 3])) w' (by rfl) (run_build_of 23 [(0, .const (.int .u8 1)), (1, .const (.int .u8 2)), (2, .const (.int .u8 3))] rfl _ #[.int .u8 1, .int .u8 2, .int .u8 3] rfl (by kernel_rfl)) ⟨v2, by kernel_rfl, hw⟩
    | 2, _ =>
      have h1 := haft 1 (by decide)
      have e10 : (SpF b1 Lx v2).eval (.tmp 10) = .agg (#[.int .u8 1, .int .u8 2, .int .u8 3]) := by show (bif Lx 1 then _ else _) = _; rw [h1]; rfl
      have g10 : (SpF b1 Lx v2).tmps[10]?.getD undef = .agg (#[.int .u8 1, .int .u8 2, .int .u8 3]) := by show (bif Lx 1 then _ else _) = _; rw [h1]; rfl
      exact i_call rfl (.agg (vcA ⟨1, 2, 3, 0⟩)) 7 #[.agg (#[.int .u8 1, .int .u8 2, .int .u8 3])] (fun w2 => Below w'.heap.size w' w2) (by rfl) (by go_simp) (vec_any 1 2 3 (by decide) (by decide) (by decide) w') (fun w2 hb => ⟨v2, by kernel_rfl, hw.next hb⟩)
    | 3, _ =>
      have g1 : (SpF b1 Lx v2).tmps[1]?.getD undef = .pointer (some ⟨b1, 0, none⟩) := by kernel_rfl
      have e1 : (SpF b1 Lx v2).eval (.tmp 1) = .pointer (some ⟨b1, 0, none⟩) := by kernel_rfl
      exact i_val rfl (.agg (cfA ⟨0, 0, 0, 2, 0, 0⟩)) w' (by rfl) (kb_all (K2.out.next hw.from1) 0 rfl 38 _ rfl e1 Try.underlying38 rfl (size34)) ⟨v2, by kernel_rfl, hw⟩
    | 4, _ =>
      have h0 := haft 0 (by decide)
      have e9 : (SpF b1 Lx v2).eval (.tmp 9) = .agg (poA ⟨0, 0, false, 0, 0, false, false, false, false, false, 0, 0, 0, 0, 0, 0, 0, 0, 0, 0, 0⟩) := by show (bif Lx 0 then _ else _) = _; rw [h0]; rfl
      have g9 : (SpF b1 Lx v2).tmps[9]?.getD undef = .agg (poA ⟨0, 0, false, 0, 0, false, false, false, false, false, 0, 0, 0, 0, 0, 0, 0, 0, 0, 0, 0⟩) := by show (bif Lx 0 then _ else _) = _; rw [h0]; rfl
      have h2 := haft 2 (by decide)
      have e11 : (SpF b1 Lx v2).eval (.tmp 11) = .agg (vcA ⟨1, 2, 3, 0⟩) := by show (bif Lx 2 then _ else _) = _; rw [h2]; rfl
      have g11 : (SpF b1 Lx v2).tmps[11]?.getD undef = .agg (vcA ⟨1, 2, 3, 0⟩) := by show (bif Lx 2 then _ else _) = _; rw [h2]; rfl
      have h3 := haft 3 (by decide)
      have e12 : (SpF b1 Lx v2).eval (.tmp 12) = .agg (cfA ⟨0, 0, 0, 2, 0, 0⟩) := by show (bif Lx 3 then _ else _) = _; rw [h3]; rfl
      have g12 : (SpF b1 Lx v2).tmps[12]?.getD undef = .agg (cfA ⟨0, 0, 0, 2, 0, 0⟩) := by show (bif Lx 3 then _ else _) = _; rw [h3]; rfl
      exact i_call rfl (.tuple #[.agg (poA ⟨0, 0, false, 0, 0, false, false, false, false, false, 4, 0, 1, 1, 2, 3, 0, 0, 0, 2, 0⟩), .bool true, .bool false]) 9 #[.agg (poA ⟨0, 0, false, 0, 0, false, false, false, false, false, 0, 0, 0, 0, 0, 0, 0, 0, 0, 0, 0⟩), .int .i64 4, .agg (vcA ⟨1, 2, 3, 0⟩), .agg (cfA ⟨0, 0, 0, 2, 0, 0⟩)] (fun w2 => Below w'.heap.size w' w2) (by rfl) (by go_simp) (assume_is ⟨0, 0, false, 0, 0, false, false, false, false, false, 0, 0, 0, 0, 0, 0, 0, 0, 0, 0, 0⟩ ⟨0, 0, false, 0, 0, false, false, false, false, false, 0, 0, 0, 0, 0, 0, 0, 0, 0, 0, 0⟩ ⟨0, 0, false, 0, 0, false, false, false, false, false, 4, 0, 1, 1, 2, 3, 0, 0, 0, 2, 0⟩ ⟨0, 0, 0, 0⟩ 4 ⟨1, 2, 3, 0⟩ ⟨0, 0, 0, 2, 0, 0⟩ true false (by kernel_rfl) (by kernel_rfl) (by kernel_rfl) (by kernel_rfl) w') (fun w2 hb => ⟨v2, by kernel_rfl, hw.next hb⟩)
    | 5, _ =>
      have h4 := haft 4 (by decide)
      have e13 : (SpF b1 Lx v2).eval (.tmp 13) = .tuple #[.agg (poA ⟨0, 0, false, 0, 0, false, false, false, false, false, 4, 0, 1, 1, 2, 3, 0, 0, 0, 2, 0⟩), .bool true, .bool false] := by show (bif Lx 4 then _ else _) = _; rw [h4]; rfl
      have g13 : (SpF b1 Lx v2).tmps[13]?.getD undef = .tuple #[.agg (poA ⟨0, 0, false, 0, 0, false, false, false, false, false, 4, 0, 1, 1, 2, 3, 0, 0, 0, 2, 0⟩), .bool true, .bool false] := by show (bif Lx 4 then _ else _) = _; rw [h4]; rfl
      exact i_val rfl (.tuple #[.agg (poA ⟨0, 0, false, 0, 0, false, false, false, false, false, 4, 0, 1, 1, 2, 3, 0, 0, 0, 2, 0⟩), .bool true, .bool false]) w' (by rfl) (by go_simp) ⟨v2, by kernel_rfl, hw⟩
    | 6, _ =>
      have h5 := haft 5 (by decide)
      have e8 : (SpF b1 Lx v2).eval (.tmp 8) = .tuple #[.agg (poA ⟨0, 0, false, 0, 0, false, false, false, false, false, 4, 0, 1, 1, 2, 3, 0, 0, 0, 2, 0⟩), .bool true, .bool false] := by show (bif Lx 5 then _ else _) = _; rw [h5]; rfl
      have g8 : (SpF b1 Lx v2).tmps[8]?.getD undef = .tuple #[.agg (poA ⟨0, 0, false, 0, 0, false, false, false, false, false, 4, 0, 1, 1, 2, 3, 0, 0, 0, 2, 0⟩), .bool true, .bool false] := by show (bif Lx 5 then _ else _) = _; rw [h5]; rfl
      exact i_val rfl (.agg (poA ⟨0, 0, false, 0, 0, false, false, false, false, false, 4, 0, 1, 1, 2, 3, 0, 0, 0, 2, 0⟩)) w' (by rfl) (by go_simp) ⟨v2, by kernel_rfl, hw⟩
    | 7, _ =>
      have h5 := haft 5 (by decide)
      have e8 : (SpF b1 Lx v2).eval (.tmp 8) = .tuple #[.agg (poA ⟨0, 0, false, 0, 0, false, false, false, false, false, 4, 0, 1, 1, 2, 3, 0, 0, 0, 2, 0⟩), .bool true, .bool false] := by show (bif Lx 5 then _ else _) = _; rw [h5]; rfl
      have g8 : (SpF b1 Lx v2).tmps[8]?.getD undef = .tuple #[.agg (poA ⟨0, 0, false, 0, 0, false, false, false, false, false, 4, 0, 1, 1, 2, 3, 0, 0, 0, 2, 0⟩), .bool true, .bool false] := by show (bif Lx 5 then _ else _) = _; rw [h5]; rfl
      exact i_val rfl (.bool true) w' (by rfl) (by go_simp) ⟨v2, by kernel_rfl, hw⟩
    | 8, _ =>
      have h5 := haft 5 (by decide)
      have e8 : (SpF b1 Lx v2).eval (.tmp 8) = .tuple #[.agg (poA ⟨0, 0, false, 0, 0, false, false, false, false, false, 4, 0, 1, 1, 2, 3, 0, 0, 0, 2, 0⟩), .bool true, .bool false] := by show (bif Lx 5 then _ else _) = _; rw [h5]; rfl
      have g8 : (SpF b1 Lx v2).tmps[8]?.getD undef = .tuple #[.agg (poA ⟨0, 0, false, 0, 0, false, false, false, false, false, 4, 0, 1, 1, 2, 3, 0, 0, 0, 2, 0⟩), .bool true, .bool false] := by show (bif Lx 5 then _ else _) = _; rw [h5]; rfl
      exact i_val rfl (.bool false) w' (by rfl) (by go_simp) ⟨v2, by kernel_rfl, hw⟩
    | 9, _ =>
      have hz := z50 w'
      exact i_val rfl (.pointer (some ⟨w'.heap.size, 0, none⟩)) (w'.alloc (.cells (nil21) 42)) (by rfl) (by go_simp) ⟨(.pointer (some ⟨w'.heap.size, 0, none⟩)), by kernel_rfl, hw.alloc7 rfl hL⟩
    | 10, _ =>
      have e2 : (SpF b1 Lx v2).eval (.tmp 2) = v2 := by kernel_rfl
      have g2 : (SpF b1 Lx v2).tmps[2]?.getD undef = v2 := by kernel_rfl
      have h6 := haft 6 (by decide)
      have e14 : (SpF b1 Lx v2).eval (.tmp 14) = .agg (poA ⟨0, 0, false, 0, 0, false, false, false, false, false, 4, 0, 1, 1, 2, 3, 0, 0, 0, 2, 0⟩) := by show (bif Lx 6 then _ else _) = _; rw [h6]; rfl
      have g14 : (SpF b1 Lx v2).tmps[14]?.getD undef = .agg (poA ⟨0, 0, false, 0, 0, false, false, false, false, false, 4, 0, 1, 1, 2, 3, 0, 0, 0, 2, 0⟩) := by show (bif Lx 6 then _ else _) = _; rw [h6]; rfl
      obtain ⟨c, cs, rfl, hB, hz, hk, -⟩ := hw.p7 (haft 9 (by decide))
      exact i_wp rfl (by rfl) (wp_store_row 42 _ _ rfl c (poA ⟨0, 0, false, 0, 0, false, false, false, false, false, 4, 0, 1, 1, 2, 3, 0, 0, 0, 2, 0⟩) e2 e14 42 cs hk (size50) (hz.trans rfl) (po_all _) ⟨(.pointer (some ⟨c, 0, none⟩)), by kernel_rfl, hw.store7 (haft 9 (by decide)) rfl hk hB⟩)
    | 11, _ =>
      have h7 := haft 7 (by decide)
      have e15 : (SpF b1 Lx v2).eval (.tmp 15) = .bool true := by show (bif Lx 7 then _ else _) = _; rw [h7]; rfl
      have g15 : (SpF b1 Lx v2).tmps[15]?.getD undef = .bool true := by show (bif Lx 7 then _ else _) = _; rw [h7]; rfl
      exact i_val rfl (.bool true) w' (by rfl) (by go_simp) ⟨v2, by kernel_rfl, hw⟩
    | 12, _ =>
      have h8 := haft 8 (by decide)
      have e16 : (SpF b1 Lx v2).eval (.tmp 16) = .bool false := by show (bif Lx 8 then _ else _) = _; rw [h8]; rfl
      have g16 : (SpF b1 Lx v2).tmps[16]?.getD undef = .bool false := by show (bif Lx 8 then _ else _) = _; rw [h8]; rfl
      exact i_val rfl (.bool false) w' (by rfl) (by go_simp) ⟨v2, by kernel_rfl, hw⟩
    | k + 13, h =>
      exfalso
      have h2 : k + 13 < 13 := h
      omega
  intro Lx ac w3 hI hall
  obtain ⟨v2, rfl, hw⟩ := hI
  obtain ⟨b3x, cs0, hv0, hB0, -, hk0, hx0⟩ := hw.p7 (hall 9 (by decide))
  have hx0 := hx0 (hall 10 (by decide))
  subst hx0
  subst hv0
  have hfr : SpF b1 Lx (.pointer (some ⟨b3x, 0, none⟩)) = { tmps := #[.bool false, .pointer (some ⟨b1, 0, none⟩), .pointer (some ⟨b3x, 0, none⟩), .bool true, .bool false, undef, undef, .agg (cfA ⟨0, 0, 0, 2, 0, 0⟩), .tuple #[.agg (poA ⟨0, 0, false, 0, 0, false, false, false, false, false, 4, 0, 1, 1, 2, 3, 0, 0, 0, 2, 0⟩), .bool true, .bool false], .agg (poA ⟨0, 0, false, 0, 0, false, false, false, false, false, 0, 0, 0, 0, 0, 0, 0, 0, 0, 0, 0⟩), .agg (#[.int .u8 1, .int .u8 2, .int .u8 3]), .agg (vcA ⟨1, 2, 3, 0⟩), .agg (cfA ⟨0, 0, 0, 2, 0, 0⟩), .tuple #[.agg (poA ⟨0, 0, false, 0, 0, false, false, false, false, false, 4, 0, 1, 1, 2, 3, 0, 0, 0, 2, 0⟩), .bool true, .bool false], .agg (poA ⟨0, 0, false, 0, 0, false, false, false, false, false, 4, 0, 1, 1, 2, 3, 0, 0, 0, 2, 0⟩), .bool true, .bool false, undef, undef, undef, undef, undef, undef, undef, undef, undef, undef, undef, undef, undef, undef, undef, undef, undef, undef, undef, undef, undef, undef, undef, undef, undef, undef, undef, undef, undef, undef, undef, undef], defers := [] } := by unfold SpF; simp only [hall 0 (by decide), hall 1 (by decide), hall 2 (by decide), hall 3 (by decide), hall 4 (by decide), hall 5 (by decide), hall 6 (by decide), hall 7 (by decide), hall 8 (by decide), hall 9 (by decide), hall 11 (by decide), hall 12 (by decide), cond_true]
  rw [hfr]
  clear hfr
  have K3 := Lib.hid (show Kb w [(b1, cfA ⟨0, 0, 0, 2, 0, 0⟩, 38), (b3x, poA ⟨0, 0, false, 0, 0, false, false, false, false, false, 4, 0, 1, 1, 2, 3, 0, 0, 0, 2, 0⟩, 42)] w3 from (kb_add (K2.out.next hw.from1) hk0 (fun x hx => by have := ((K2.out.all x hx).lt); omega) (Nat.le_trans K2.out.below.size hB0)))
  clear hw hall
  go_upto_region 3 with fail
  refine wp_region_lit ?_
  refine wv (.agg (poA ⟨0, 0, false, 0, 0, false, false, false, false, false, 4, 0, 1, 1, 2, 3, 0, 0, 0, 2, 0⟩)) ?_ (hrun := kb_all K3.out 1 rfl 42 _ rfl rfl Try.underlying42 rfl (size50))
  (try simp only [Act.put, gA, gS, gZ, sA, sZ, sS])
  refine kb_call K3.out 11 #[.agg (poA ⟨0, 0, false, 0, 0, false, false, false, false, false, 4, 0, 1, 1, 2, 3, 0, 0, 0, 2, 0⟩)] (.tuple #[.agg (poA ⟨0, 0, false, 0, 0, false, false, false, false, true, 4, 2, 1, 1, 2, 3, 0, 0, 0, 0, 0⟩), .bool true]) (by rfl) (by go_simp) (agree_is ⟨0, 0, false, 0, 0, false, false, false, false, false, 4, 0, 1, 1, 2, 3, 0, 0, 0, 2, 0⟩ ⟨0, 0, false, 0, 0, false, false, false, false, true, 4, 2, 1, 1, 2, 3, 0, 0, 0, 0, 0⟩ true (by kernel_rfl) (by kernel_rfl) w3) ?_
  intro w4 hk
  have K4 := Lib.hid (show Kb w [(b1, cfA ⟨0, 0, 0, 2, 0, 0⟩, 38), (b3x, poA ⟨0, 0, false, 0, 0, false, false, false, false, false, 4, 0, 1, 1, 2, 3, 0, 0, 0, 2, 0⟩, 42)] w4 from hk)
  clear hk
  (try simp only [Act.put, gA, gS, gZ, sA, sZ, sS])
  refine wv (.tuple #[.agg (poA ⟨0, 0, false, 0, 0, false, false, false, false, true, 4, 2, 1, 1, 2, 3, 0, 0, 0, 0, 0⟩), .bool true]) ?_
  (try simp only [Act.put, gA, gS, gZ, sA, sZ, sS])
  refine wv (.agg (poA ⟨0, 0, false, 0, 0, false, false, false, false, true, 4, 2, 1, 1, 2, 3, 0, 0, 0, 0, 0⟩)) ?_
  (try simp only [Act.put, gA, gS, gZ, sA, sZ, sS])
  refine wv (.bool true) ?_
  (try simp only [Act.put, gA, gS, gZ, sA, sZ, sS])
  refine kb_alloc K4.out 42 (nil21) rfl z50 (by rfl) ?_
  intro b5 w5 hb5 hk
  have K5 := Lib.hid (show Kb w [(b1, cfA ⟨0, 0, 0, 2, 0, 0⟩, 38), (b3x, poA ⟨0, 0, false, 0, 0, false, false, false, false, false, 4, 0, 1, 1, 2, 3, 0, 0, 0, 2, 0⟩, 42), (b5, nil21, 42)] w5 from hk)
  clear hk hb5
  (try simp only [Act.put, gA, gS, gZ, sA, sZ, sS])
  refine kb_row K5.out 2 rfl 42 _ _ (poA ⟨0, 0, false, 0, 0, false, false, false, false, true, 4, 2, 1, 1, 2, 3, 0, 0, 0, 0, 0⟩) rfl rfl rfl rfl (size50) (by rfl) (po_all _) ?_
  intro w6 hk
  have K6 := Lib.hid (show Kb w [(b1, cfA ⟨0, 0, 0, 2, 0, 0⟩, 38), (b3x, poA ⟨0, 0, false, 0, 0, false, false, false, false, false, 4, 0, 1, 1, 2, 3, 0, 0, 0, 2, 0⟩, 42), (b5, poA ⟨0, 0, false, 0, 0, false, false, false, false, true, 4, 2, 1, 1, 2, 3, 0, 0, 0, 0, 0⟩, 42)] w6 from hk)
  clear hk
  (try simp only [Act.put, gA, gS, gZ, sA, sZ, sS])
  refine wv (.bool true) ?_
  (try simp only [Act.put, gA, gS, gZ, sA, sZ, sS])
  refine wpList_nil ?_
  go_upto_region 4 with fail
  refine wp_region_lit ?_
  refine wv (.bool true) ?_
  (try simp only [Act.put, gA, gS, gZ, sA, sZ, sS])
  refine wv (.bool true) ?_
  (try simp only [Act.put, gA, gS, gZ, sA, sZ, sS])
  refine wv (.bool false) ?_
  (try simp only [Act.put, gA, gS, gZ, sA, sZ, sS])
  refine wv (.bool true) ?_
  (try simp only [Act.put, gA, gS, gZ, sA, sZ, sS])
  refine wv (.bool true) ?_ (hrun := run_pick_yes (.tmp 23) (.tmp 25) (.const (.bool false)) _ rfl rfl rfl)
  (try simp only [Act.put, gA, gS, gZ, sA, sZ, sS])
  refine wv (.bool true) ?_
  (try simp only [Act.put, gA, gS, gZ, sA, sZ, sS])
  refine wv (.pointer (some ⟨b3x, 12, none⟩)) ?_
  (try simp only [Act.put, gA, gS, gZ, sA, sZ, sS])
  refine wv (.int .i64 1) ?_ (hrun := by have q : w6.cell? ⟨b3x, 12, none⟩ = some (.int .i64 1) := K6.out.cell (i := 1) rfl (by rfl); go_simp)
  (try simp only [Act.put, gA, gS, gZ, sA, sZ, sS])
  refine wv (.bool true) ?_
  (try simp only [Act.put, gA, gS, gZ, sA, sZ, sS])
  refine wv (.bool true) ?_ (hrun := run_pick_yes (.tmp 27) (.tmp 30) (.const (.bool false)) _ rfl rfl rfl)
  (try simp only [Act.put, gA, gS, gZ, sA, sZ, sS])
  refine wv (.bool true) ?_
  (try simp only [Act.put, gA, gS, gZ, sA, sZ, sS])
  refine wv (.pointer (some ⟨b3x, 19, none⟩)) ?_
  (try simp only [Act.put, gA, gS, gZ, sA, sZ, sS])
  refine wv (.int .i64 2) ?_ (hrun := by have q : w6.cell? ⟨b3x, 19, none⟩ = some (.int .i64 2) := K6.out.cell (i := 1) rfl (by rfl); go_simp)
  (try simp only [Act.put, gA, gS, gZ, sA, sZ, sS])
  refine wv (.bool true) ?_
  (try simp only [Act.put, gA, gS, gZ, sA, sZ, sS])
  refine wv (.bool true) ?_ (hrun := run_pick_yes (.tmp 32) (.tmp 35) (.const (.bool false)) _ rfl rfl rfl)
  (try simp only [Act.put, gA, gS, gZ, sA, sZ, sS])
  refine wv (.bool true) ?_
  (try simp only [Act.put, gA, gS, gZ, sA, sZ, sS])
  refine wv (.bool true) ?_
  (try simp only [Act.put, gA, gS, gZ, sA, sZ, sS])
  refine wv (.bool true) ?_ (hrun := run_pick_yes (.tmp 37) (.tmp 38) (.const (.bool false)) _ rfl rfl rfl)
  (try simp only [Act.put, gA, gS, gZ, sA, sZ, sS])
  refine wv (.bool true) ?_
  (try simp only [Act.put, gA, gS, gZ, sA, sZ, sS])
  refine wv (.pointer (some ⟨b5, 11, none⟩)) ?_
  (try simp only [Act.put, gA, gS, gZ, sA, sZ, sS])
  refine wv (.int .i64 2) ?_ (hrun := by have q : w6.cell? ⟨b5, 11, none⟩ = some (.int .i64 2) := K6.out.cell (i := 2) rfl (by rfl); go_simp)
  (try simp only [Act.put, gA, gS, gZ, sA, sZ, sS])
  refine wv (.bool true) ?_
  (try simp only [Act.put, gA, gS, gZ, sA, sZ, sS])
  refine wv (.bool true) ?_ (hrun := run_pick_yes (.tmp 40) (.tmp 43) (.const (.bool false)) _ rfl rfl rfl)
  (try simp only [Act.put, gA, gS, gZ, sA, sZ, sS])
  refine wv (.bool true) ?_
  (try simp only [Act.put, gA, gS, gZ, sA, sZ, sS])
  refine wv (.pointer (some ⟨b5, 9, none⟩)) ?_
  (try simp only [Act.put, gA, gS, gZ, sA, sZ, sS])
  refine wv (.bool true) ?_ (hrun := by have q : w6.cell? ⟨b5, 9, none⟩ = some (.bool true) := K6.out.cell (i := 2) rfl (by rfl); go_simp)
  (try simp only [Act.put, gA, gS, gZ, sA, sZ, sS])
  refine wv (.bool true) ?_ (hrun := run_pick_yes (.tmp 45) (.tmp 47) (.const (.bool false)) _ rfl rfl rfl)
  (try simp only [Act.put, gA, gS, gZ, sA, sZ, sS])
  refine wv (.bool true) ?_
  (try simp only [Act.put, gA, gS, gZ, sA, sZ, sS])
  refine wpList_nil ?_
  go_wp2_with fail
  go_ret
  exact ⟨ret_bool (rfl), K6.out.below⟩
end Go.Proofs.Yteeinlbhcdpnnaa
