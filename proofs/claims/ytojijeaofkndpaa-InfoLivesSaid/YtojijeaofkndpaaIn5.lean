/- A vector, a port of plain data. -/
import Derived.Test.YtojijeaofkndpaaIn0
import Derived.Test.YtojijeaofkndpaaKb2
namespace Go.Proofs.Ytojijeaofkndpaa
open Go.RowKit
attribute [local irreducible] wpQuiet wpList
set_option linter.unusedSimpArgs false
set_option linter.unusedVariables false

/-- A vector as plain data; a port as plain data. -/
abbrev tvA (x : Vc) : Array Value := #[.int .u64 (x.r : Nat), .int .u64 (x.b : Nat), .int .u32 (x.c : Nat), .int .u16 (x.p : Nat)]
structure Lp where
  f0 : Bool
  f1 : Bool
  f2 : Bool
  f3 : Bool
  f4 : Bool
  n0 : Nat
  n1 : Nat
  n2 : Nat
  v : Vc
  k0 : Int
  k1 : Int
  k2 : Int
  k3 : Int
  no : Nat
def lpA (x : Lp) : Array Value := #[.bool x.f0, .bool x.f1, .bool x.f2, .bool x.f3, .bool x.f4, .int .u8 (x.n0 : Nat), .int .u8 (x.n1 : Nat), .int .u8 (x.n2 : Nat), .int .u64 (x.v.r : Nat), .int .u64 (x.v.b : Nat), .int .u32 (x.v.c : Nat), .int .u16 (x.v.p : Nat), .int .i64 x.k0, .int .i64 x.k1, .int .i64 x.k2, .int .i64 x.k3, .int .u16 (x.no : Nat)]
/-- The port that it makes. -/
def madeP (x : Lp) : Po := ⟨0, 0, false, 0, (IntKind.i64.wrap (Int.tmod (x.no : Nat) 16)), x.f4, x.f1, x.f0, x.f2, x.f3, (IntKind.i64.wrap (Int.tmod (x.n0 : Nat) 5)), (IntKind.i64.wrap (Int.tmod (x.n1 : Nat) 3)), (IntKind.i64.wrap (Int.tmod (x.n2 : Nat) 3)), (x.v.r : Nat), (x.v.c : Nat), (x.v.b : Nat), (x.v.p : Nat), x.k0, x.k1, x.k2, x.k3⟩
set_option maxRecDepth 100000 in
set_option maxHeartbeats 8000000 in
theorem itold_any (v : Vc) (w : World) : Calls Try.prog 16 #[.agg (tvA v)] w fun e w' => e = .returned (vcV v) ∧ Below w.heap.size w w' := by
  have K := Lib.hid (Kb.nil w)
  go_enter Try.func16, Try.ntmps16
  go_upto_region 0 with fail
  refine wp_region_lit ?_
  refine kb_box K.out 52 (.tmp 0) (tvA v) rfl rfl (by rfl) ?_
  intro b1 w1 hb1 hk
  have K1 := Lib.hid (show Kb w [(b1, tvA v, 52)] w1 from hk)
  clear hk hb1
  (try simp only [Act.put, List.getElem_toArray, List.getElem_cons_succ, List.getElem_cons_zero, List.setIfInBounds_toArray, List.set_cons_zero, List.set_cons_succ])
  refine kb_alloc K1.out 44 (nil4) rfl zV (by rfl) ?_
  intro b2 w2 hb2 hk
  have K2 := Lib.hid (show Kb w [(b1, tvA v, 52), (b2, nil4, 44)] w2 from hk)
  clear hk hb2
  (try simp only [Act.put, List.getElem_toArray, List.getElem_cons_succ, List.getElem_cons_zero, List.setIfInBounds_toArray, List.set_cons_zero, List.set_cons_succ])
  refine wpList_nil ?_
  go_upto_region 1 with fail
  refine wp_region_lit ?_
  refine wpList_val (.pointer (some ⟨b1, 0, none⟩)) (by rfl) (by go_simp) ?_
  (try simp only [Act.put, List.getElem_toArray, List.getElem_cons_succ, List.getElem_cons_zero, List.setIfInBounds_toArray, List.set_cons_zero, List.set_cons_succ])
  refine wpList_val (.int .u64 (v.r : Nat)) (by rfl) (by have q : w2.cell? ⟨b1, 0, none⟩ = some (.int .u64 (v.r : Nat)) := K2.out.cell (i := 0) rfl (by rfl); go_simp) ?_
  (try simp only [Act.put, List.getElem_toArray, List.getElem_cons_succ, List.getElem_cons_zero, List.setIfInBounds_toArray, List.set_cons_zero, List.set_cons_succ])
  refine wpList_val (.pointer (some ⟨b1, 2, none⟩)) (by rfl) (by go_simp) ?_
  (try simp only [Act.put, List.getElem_toArray, List.getElem_cons_succ, List.getElem_cons_zero, List.setIfInBounds_toArray, List.set_cons_zero, List.set_cons_succ])
  refine wpList_val (.int .u32 (v.c : Nat)) (by rfl) (by have q : w2.cell? ⟨b1, 2, none⟩ = some (.int .u32 (v.c : Nat)) := K2.out.cell (i := 0) rfl (by rfl); go_simp) ?_
  (try simp only [Act.put, List.getElem_toArray, List.getElem_cons_succ, List.getElem_cons_zero, List.setIfInBounds_toArray, List.set_cons_zero, List.set_cons_succ])
  refine wpList_val (.pointer (some ⟨b1, 1, none⟩)) (by rfl) (by go_simp) ?_
  (try simp only [Act.put, List.getElem_toArray, List.getElem_cons_succ, List.getElem_cons_zero, List.setIfInBounds_toArray, List.set_cons_zero, List.set_cons_succ])
  refine wpList_val (.int .u64 (v.b : Nat)) (by rfl) (by have q : w2.cell? ⟨b1, 1, none⟩ = some (.int .u64 (v.b : Nat)) := K2.out.cell (i := 0) rfl (by rfl); go_simp) ?_
  (try simp only [Act.put, List.getElem_toArray, List.getElem_cons_succ, List.getElem_cons_zero, List.setIfInBounds_toArray, List.set_cons_zero, List.set_cons_succ])
  refine wpList_val (.pointer (some ⟨b1, 3, none⟩)) (by rfl) (by go_simp) ?_
  (try simp only [Act.put, List.getElem_toArray, List.getElem_cons_succ, List.getElem_cons_zero, List.setIfInBounds_toArray, List.set_cons_zero, List.set_cons_succ])
  refine wpList_val (.int .u16 (v.p : Nat)) (by rfl) (by have q : w2.cell? ⟨b1, 3, none⟩ = some (.int .u16 (v.p : Nat)) := K2.out.cell (i := 0) rfl (by rfl); go_simp) ?_
  (try simp only [Act.put, List.getElem_toArray, List.getElem_cons_succ, List.getElem_cons_zero, List.setIfInBounds_toArray, List.set_cons_zero, List.set_cons_succ])
  refine wpList_val (.agg (vcA v)) (by rfl) (run_build_of 44 [(0, .tmp 4), (1, .tmp 6), (2, .tmp 8), (3, .tmp 10)] rfl _ (vcA v) rfl (by kernel_rfl)) ?_
  (try simp only [Act.put, List.getElem_toArray, List.getElem_cons_succ, List.getElem_cons_zero, List.setIfInBounds_toArray, List.set_cons_zero, List.set_cons_succ])
  refine kb_row K2.out 1 rfl 44 _ _ (vcA v) rfl rfl rfl rfl (sizeV) (by rfl) (by kernel_rfl) ?_
  intro w3 hk
  have K3 := Lib.hid (show Kb w [(b1, tvA v, 52), (b2, vcA v, 44)] w3 from hk)
  clear hk
  (try simp only [Act.put, List.getElem_toArray, List.getElem_cons_succ, List.getElem_cons_zero, List.setIfInBounds_toArray, List.set_cons_zero, List.set_cons_succ])
  refine wpList_nil ?_
  go_wp2_with fail
  refine bodyPost_ret (v := .agg (vcA v)) (results_cell_row Try.results16 _ _ b2 44 (vcA v) (0, 0) _ rfl (K3.out.at (i := 1) rfl) Try.underlying44 rfl sizeV) rfl ?_
  exact ⟨rfl, K3.out.below⟩
/-- The slots, while the region runs. -/
def MadeF (x : Lp) (b1 b2 : Nat) (L : Nat → Bool) : Act := { tmps := #[.agg (lpA x), .pointer (some ⟨b1, 0, none⟩), .pointer (some ⟨b2, 0, none⟩), bif L 0 then .pointer (some ⟨b1, 16, none⟩) else undef, bif L 1 then .int .u16 (x.no : Nat) else undef, bif L 2 then .int .u16 (Int.tmod (x.no : Nat) 16) else undef, bif L 3 then .int .i64 (IntKind.i64.wrap (Int.tmod (x.no : Nat) 16)) else undef, bif L 4 then .pointer (some ⟨b1, 0, none⟩) else undef, bif L 5 then .pointer (some ⟨b1, 0, none⟩) else undef, bif L 6 then .bool x.f0 else undef, bif L 7 then .pointer (some ⟨b1, 0, none⟩) else undef, bif L 8 then .pointer (some ⟨b1, 1, none⟩) else undef, bif L 9 then .bool x.f1 else undef, bif L 10 then .pointer (some ⟨b1, 0, none⟩) else undef, bif L 11 then .pointer (some ⟨b1, 2, none⟩) else undef, bif L 12 then .bool x.f2 else undef, bif L 13 then .pointer (some ⟨b1, 0, none⟩) else undef, bif L 14 then .pointer (some ⟨b1, 3, none⟩) else undef, bif L 15 then .bool x.f3 else undef, bif L 16 then .pointer (some ⟨b1, 0, none⟩) else undef, bif L 17 then .pointer (some ⟨b1, 4, none⟩) else undef, bif L 18 then .bool x.f4 else undef, bif L 19 then .pointer (some ⟨b1, 5, none⟩) else undef, bif L 20 then .pointer (some ⟨b1, 5, none⟩) else undef, bif L 21 then .int .u8 (x.n0 : Nat) else undef, bif L 22 then .int .u8 (Int.tmod (x.n0 : Nat) 5) else undef, bif L 23 then .int .i64 (IntKind.i64.wrap (Int.tmod (x.n0 : Nat) 5)) else undef, bif L 24 then .pointer (some ⟨b1, 5, none⟩) else undef, bif L 25 then .pointer (some ⟨b1, 6, none⟩) else undef, bif L 26 then .int .u8 (x.n1 : Nat) else undef, bif L 27 then .int .u8 (Int.tmod (x.n1 : Nat) 3) else undef, bif L 28 then .int .i64 (IntKind.i64.wrap (Int.tmod (x.n1 : Nat) 3)) else undef, bif L 29 then .pointer (some ⟨b1, 5, none⟩) else undef, bif L 30 then .pointer (some ⟨b1, 7, none⟩) else undef, bif L 31 then .int .u8 (x.n2 : Nat) else undef, bif L 32 then .int .u8 (Int.tmod (x.n2 : Nat) 3) else undef, bif L 33 then .int .i64 (IntKind.i64.wrap (Int.tmod (x.n2 : Nat) 3)) else undef, bif L 34 then .pointer (some ⟨b1, 8, none⟩) else undef, bif L 35 then .agg (#[.int .u64 (x.v.r : Nat), .int .u64 (x.v.b : Nat), .int .u32 (x.v.c : Nat), .int .u16 (x.v.p : Nat)]) else undef, bif L 36 then .agg (vcA x.v) else undef, bif L 37 then .pointer (some ⟨b1, 12, none⟩) else undef, bif L 38 then .pointer (some ⟨b1, 12, none⟩) else undef, bif L 39 then .int .i64 x.k0 else undef, bif L 40 then .pointer (some ⟨b1, 12, none⟩) else undef, bif L 41 then .pointer (some ⟨b1, 13, none⟩) else undef, bif L 42 then .int .i64 x.k1 else undef, bif L 43 then .pointer (some ⟨b1, 12, none⟩) else undef, bif L 44 then .pointer (some ⟨b1, 14, none⟩) else undef, bif L 45 then .int .i64 x.k2 else undef, bif L 46 then .pointer (some ⟨b1, 12, none⟩) else undef, bif L 47 then .pointer (some ⟨b1, 15, none⟩) else undef, bif L 48 then .int .i64 x.k3 else undef, bif L 49 then .agg (poA (madeP x)) else undef], defers := [] }
set_option maxRecDepth 100000 in
set_option maxHeartbeats 8000000 in
theorem imade_any (x : Lp) (w : World) : Calls Try.prog 15 #[.agg (lpA x)] w fun e w' => e = .returned (poV (madeP x)) ∧ Below w.heap.size w w' := by
  have K := Lib.hid (Kb.nil w)
  go_enter Try.func15, Try.ntmps15
  go_upto_region 0 with fail
  refine wp_region_lit ?_
  refine kb_box K.out 55 (.tmp 0) (lpA x) rfl rfl (by rfl) ?_
  intro b1 w1 hb1 hk
  have K1 := Lib.hid (show Kb w [(b1, lpA x, 55)] w1 from hk)
  clear hk hb1
  (try simp only [Act.put, List.getElem_toArray, List.getElem_cons_succ, List.getElem_cons_zero, List.setIfInBounds_toArray, List.set_cons_zero, List.set_cons_succ])
  refine kb_alloc K1.out 62 (nil21) rfl z50 (by rfl) ?_
  intro b2 w2 hb2 hk
  have K2 := Lib.hid (show Kb w [(b1, lpA x, 55), (b2, nil21, 62)] w2 from hk)
  clear hk hb2
  (try simp only [Act.put, List.getElem_toArray, List.getElem_cons_succ, List.getElem_cons_zero, List.setIfInBounds_toArray, List.set_cons_zero, List.set_cons_succ])
  refine wpList_nil ?_
  go_upto_region 1 with fail
  refine wp_region_inv (I := fun L ac w' => ac = MadeF x b1 b2 L ∧ Kb w [(b1, lpA x, 55), (b2, bif L 50 then poA (madeP x) else nil21, 62)] w') (by kernel_rfl) (by kernel_rfl) ⟨by kernel_rfl, K2.out.drew⟩ ?_ ?_
  · intro i hi Lx ac w' hI hL haft
    obtain ⟨rfl, hw⟩ := hI
    match i, hi with
    | 0, _ =>
      have g1 : (MadeF x b1 b2 Lx).tmps[1]?.getD undef = .pointer (some ⟨b1, 0, none⟩) := by kernel_rfl
      have e1 : (MadeF x b1 b2 Lx).eval (.tmp 1) = .pointer (some ⟨b1, 0, none⟩) := by kernel_rfl
      exact i_val rfl (.pointer (some ⟨b1, 16, none⟩)) w' (by rfl) (by go_simp) ⟨by kernel_rfl, hw⟩
    | 1, _ =>
      have h0 := haft 0 (by decide)
      have e3 : (MadeF x b1 b2 Lx).eval (.tmp 3) = .pointer (some ⟨b1, 16, none⟩) := by show (bif Lx 0 then _ else _) = _; rw [h0]; rfl
      have g3 : (MadeF x b1 b2 Lx).tmps[3]?.getD undef = .pointer (some ⟨b1, 16, none⟩) := by show (bif Lx 0 then _ else _) = _; rw [h0]; rfl
      exact i_val rfl (.int .u16 (x.no : Nat)) w' (by rfl) (by have q : w'.cell? ⟨b1, 16, none⟩ = some (.int .u16 (x.no : Nat)) := Kb.cell (i := 0) hw rfl (by rfl); go_simp) ⟨by kernel_rfl, hw⟩
    | 2, _ =>
      have h1 := haft 1 (by decide)
      have e4 : (MadeF x b1 b2 Lx).eval (.tmp 4) = .int .u16 (x.no : Nat) := by show (bif Lx 1 then _ else _) = _; rw [h1]; rfl
      have g4 : (MadeF x b1 b2 Lx).tmps[4]?.getD undef = .int .u16 (x.no : Nat) := by show (bif Lx 1 then _ else _) = _; rw [h1]; rfl
      exact i_val rfl (.int .u16 (Int.tmod (x.no : Nat) 16)) w' (by rfl) (by go_simp) ⟨by kernel_rfl, hw⟩
    | 3, _ =>
      have h2 := haft 2 (by decide)
      have e5 : (MadeF x b1 b2 Lx).eval (.tmp 5) = .int .u16 (Int.tmod (x.no : Nat) 16) := by show (bif Lx 2 then _ else _) = _; rw [h2]; rfl
      have g5 : (MadeF x b1 b2 Lx).tmps[5]?.getD undef = .int .u16 (Int.tmod (x.no : Nat) 16) := by show (bif Lx 2 then _ else _) = _; rw [h2]; rfl
      exact i_val rfl (.int .i64 (IntKind.i64.wrap (Int.tmod (x.no : Nat) 16))) w' (by rfl) (by go_simp) ⟨by kernel_rfl, hw⟩
    | 4, _ =>
      have g1 : (MadeF x b1 b2 Lx).tmps[1]?.getD undef = .pointer (some ⟨b1, 0, none⟩) := by kernel_rfl
      have e1 : (MadeF x b1 b2 Lx).eval (.tmp 1) = .pointer (some ⟨b1, 0, none⟩) := by kernel_rfl
      exact i_val rfl (.pointer (some ⟨b1, 0, none⟩)) w' (by rfl) (by go_simp) ⟨by kernel_rfl, hw⟩
    | 5, _ =>
      have h4 := haft 4 (by decide)
      have e7 : (MadeF x b1 b2 Lx).eval (.tmp 7) = .pointer (some ⟨b1, 0, none⟩) := by show (bif Lx 4 then _ else _) = _; rw [h4]; rfl
      have g7 : (MadeF x b1 b2 Lx).tmps[7]?.getD undef = .pointer (some ⟨b1, 0, none⟩) := by show (bif Lx 4 then _ else _) = _; rw [h4]; rfl
      exact i_val rfl (.pointer (some ⟨b1, 0, none⟩)) w' (by rfl) (by go_simp) ⟨by kernel_rfl, hw⟩
    | 6, _ =>
      have h5 := haft 5 (by decide)
      have e8 : (MadeF x b1 b2 Lx).eval (.tmp 8) = .pointer (some ⟨b1, 0, none⟩) := by show (bif Lx 5 then _ else _) = _; rw [h5]; rfl
      have g8 : (MadeF x b1 b2 Lx).tmps[8]?.getD undef = .pointer (some ⟨b1, 0, none⟩) := by show (bif Lx 5 then _ else _) = _; rw [h5]; rfl
      exact i_val rfl (.bool x.f0) w' (by rfl) (by have q : w'.cell? ⟨b1, 0, none⟩ = some (.bool x.f0) := Kb.cell (i := 0) hw rfl (by rfl); go_simp) ⟨by kernel_rfl, hw⟩
    | 7, _ =>
      have g1 : (MadeF x b1 b2 Lx).tmps[1]?.getD undef = .pointer (some ⟨b1, 0, none⟩) := by kernel_rfl
      have e1 : (MadeF x b1 b2 Lx).eval (.tmp 1) = .pointer (some ⟨b1, 0, none⟩) := by kernel_rfl
      exact i_val rfl (.pointer (some ⟨b1, 0, none⟩)) w' (by rfl) (by go_simp) ⟨by kernel_rfl, hw⟩
    | 8, _ =>
      have h7 := haft 7 (by decide)
      have e10 : (MadeF x b1 b2 Lx).eval (.tmp 10) = .pointer (some ⟨b1, 0, none⟩) := by show (bif Lx 7 then _ else _) = _; rw [h7]; rfl
      have g10 : (MadeF x b1 b2 Lx).tmps[10]?.getD undef = .pointer (some ⟨b1, 0, none⟩) := by show (bif Lx 7 then _ else _) = _; rw [h7]; rfl
      exact i_val rfl (.pointer (some ⟨b1, 1, none⟩)) w' (by rfl) (by go_simp) ⟨by kernel_rfl, hw⟩
    | 9, _ =>
      have h8 := haft 8 (by decide)
      have e11 : (MadeF x b1 b2 Lx).eval (.tmp 11) = .pointer (some ⟨b1, 1, none⟩) := by show (bif Lx 8 then _ else _) = _; rw [h8]; rfl
      have g11 : (MadeF x b1 b2 Lx).tmps[11]?.getD undef = .pointer (some ⟨b1, 1, none⟩) := by show (bif Lx 8 then _ else _) = _; rw [h8]; rfl
      exact i_val rfl (.bool x.f1) w' (by rfl) (by have q : w'.cell? ⟨b1, 1, none⟩ = some (.bool x.f1) := Kb.cell (i := 0) hw rfl (by rfl); go_simp) ⟨by kernel_rfl, hw⟩
    | 10, _ =>
      have g1 : (MadeF x b1 b2 Lx).tmps[1]?.getD undef = .pointer (some ⟨b1, 0, none⟩) := by kernel_rfl
      have e1 : (MadeF x b1 b2 Lx).eval (.tmp 1) = .pointer (some ⟨b1, 0, none⟩) := by kernel_rfl
      exact i_val rfl (.pointer (some ⟨b1, 0, none⟩)) w' (by rfl) (by go_simp) ⟨by kernel_rfl, hw⟩
    | 11, _ =>
      have h10 := haft 10 (by decide)
      have e13 : (MadeF x b1 b2 Lx).eval (.tmp 13) = .pointer (some ⟨b1, 0, none⟩) := by show (bif Lx 10 then _ else _) = _; rw [h10]; rfl
      have g13 : (MadeF x b1 b2 Lx).tmps[13]?.getD undef = .pointer (some ⟨b1, 0, none⟩) := by show (bif Lx 10 then _ else _) = _; rw [h10]; rfl
      exact i_val rfl (.pointer (some ⟨b1, 2, none⟩)) w' (by rfl) (by go_simp) ⟨by kernel_rfl, hw⟩
    | 12, _ =>
      have h11 := haft 11 (by decide)
      have e14 : (MadeF x b1 b2 Lx).eval (.tmp 14) = .pointer (some ⟨b1, 2, none⟩) := by show (bif Lx 11 then _ else _) = _; rw [h11]; rfl
      have g14 : (MadeF x b1 b2 Lx).tmps[14]?.getD undef = .pointer (some ⟨b1, 2, none⟩) := by show (bif Lx 11 then _ else _) = _; rw [h11]; rfl
      exact i_val rfl (.bool x.f2) w' (by rfl) (by have q : w'.cell? ⟨b1, 2, none⟩ = some (.bool x.f2) := Kb.cell (i := 0) hw rfl (by rfl); go_simp) ⟨by kernel_rfl, hw⟩
    | 13, _ =>
      have g1 : (MadeF x b1 b2 Lx).tmps[1]?.getD undef = .pointer (some ⟨b1, 0, none⟩) := by kernel_rfl
      have e1 : (MadeF x b1 b2 Lx).eval (.tmp 1) = .pointer (some ⟨b1, 0, none⟩) := by kernel_rfl
      exact i_val rfl (.pointer (some ⟨b1, 0, none⟩)) w' (by rfl) (by go_simp) ⟨by kernel_rfl, hw⟩
    | 14, _ =>
      have h13 := haft 13 (by decide)
      have e16 : (MadeF x b1 b2 Lx).eval (.tmp 16) = .pointer (some ⟨b1, 0, none⟩) := by show (bif Lx 13 then _ else _) = _; rw [h13]; rfl
      have g16 : (MadeF x b1 b2 Lx).tmps[16]?.getD undef = .pointer (some ⟨b1, 0, none⟩) := by show (bif Lx 13 then _ else _) = _; rw [h13]; rfl
      exact i_val rfl (.pointer (some ⟨b1, 3, none⟩)) w' (by rfl) (by go_simp) ⟨by kernel_rfl, hw⟩
    | 15, _ =>
      have h14 := haft 14 (by decide)
      have e17 : (MadeF x b1 b2 Lx).eval (.tmp 17) = .pointer (some ⟨b1, 3, none⟩) := by show (bif Lx 14 then _ else _) = _; rw [h14]; rfl
      have g17 : (MadeF x b1 b2 Lx).tmps[17]?.getD undef = .pointer (some ⟨b1, 3, none⟩) := by show (bif Lx 14 then _ else _) = _; rw [h14]; rfl
      exact i_val rfl (.bool x.f3) w' (by rfl) (by have q : w'.cell? ⟨b1, 3, none⟩ = some (.bool x.f3) := Kb.cell (i := 0) hw rfl (by rfl); go_simp) ⟨by kernel_rfl, hw⟩
    | 16, _ =>
      have g1 : (MadeF x b1 b2 Lx).tmps[1]?.getD undef = .pointer (some ⟨b1, 0, none⟩) := by kernel_rfl
      have e1 : (MadeF x b1 b2 Lx).eval (.tmp 1) = .pointer (some ⟨b1, 0, none⟩) := by kernel_rfl
      exact i_val rfl (.pointer (some ⟨b1, 0, none⟩)) w' (by rfl) (by go_simp) ⟨by kernel_rfl, hw⟩
    | 17, _ =>
      have h16 := haft 16 (by decide)
      have e19 : (MadeF x b1 b2 Lx).eval (.tmp 19) = .pointer (some ⟨b1, 0, none⟩) := by show (bif Lx 16 then _ else _) = _; rw [h16]; rfl
      have g19 : (MadeF x b1 b2 Lx).tmps[19]?.getD undef = .pointer (some ⟨b1, 0, none⟩) := by show (bif Lx 16 then _ else _) = _; rw [h16]; rfl
      exact i_val rfl (.pointer (some ⟨b1, 4, none⟩)) w' (by rfl) (by go_simp) ⟨by kernel_rfl, hw⟩
    | 18, _ =>
      have h17 := haft 17 (by decide)
      have e20 : (MadeF x b1 b2 Lx).eval (.tmp 20) = .pointer (some ⟨b1, 4, none⟩) := by show (bif Lx 17 then _ else _) = _; rw [h17]; rfl
      have g20 : (MadeF x b1 b2 Lx).tmps[20]?.getD undef = .pointer (some ⟨b1, 4, none⟩) := by show (bif Lx 17 then _ else _) = _; rw [h17]; rfl
      exact i_val rfl (.bool x.f4) w' (by rfl) (by have q : w'.cell? ⟨b1, 4, none⟩ = some (.bool x.f4) := Kb.cell (i := 0) hw rfl (by rfl); go_simp) ⟨by kernel_rfl, hw⟩
    | 19, _ =>
      have g1 : (MadeF x b1 b2 Lx).tmps[1]?.getD undef = .pointer (some ⟨b1, 0, none⟩) := by kernel_rfl
      have e1 : (MadeF x b1 b2 Lx).eval (.tmp 1) = .pointer (some ⟨b1, 0, none⟩) := by kernel_rfl
      exact i_val rfl (.pointer (some ⟨b1, 5, none⟩)) w' (by rfl) (by go_simp) ⟨by kernel_rfl, hw⟩
    | 20, _ =>
      have h19 := haft 19 (by decide)
      have e22 : (MadeF x b1 b2 Lx).eval (.tmp 22) = .pointer (some ⟨b1, 5, none⟩) := by show (bif Lx 19 then _ else _) = _; rw [h19]; rfl
      have g22 : (MadeF x b1 b2 Lx).tmps[22]?.getD undef = .pointer (some ⟨b1, 5, none⟩) := by show (bif Lx 19 then _ else _) = _; rw [h19]; rfl
      exact i_val rfl (.pointer (some ⟨b1, 5, none⟩)) w' (by rfl) (by go_simp) ⟨by kernel_rfl, hw⟩
    | 21, _ =>
      have h20 := haft 20 (by decide)
      have e23 : (MadeF x b1 b2 Lx).eval (.tmp 23) = .pointer (some ⟨b1, 5, none⟩) := by show (bif Lx 20 then _ else _) = _; rw [h20]; rfl
      have g23 : (MadeF x b1 b2 Lx).tmps[23]?.getD undef = .pointer (some ⟨b1, 5, none⟩) := by show (bif Lx 20 then _ else _) = _; rw [h20]; rfl
      exact i_val rfl (.int .u8 (x.n0 : Nat)) w' (by rfl) (by have q : w'.cell? ⟨b1, 5, none⟩ = some (.int .u8 (x.n0 : Nat)) := Kb.cell (i := 0) hw rfl (by rfl); go_simp) ⟨by kernel_rfl, hw⟩
    | 22, _ =>
      have h21 := haft 21 (by decide)
      have e24 : (MadeF x b1 b2 Lx).eval (.tmp 24) = .int .u8 (x.n0 : Nat) := by show (bif Lx 21 then _ else _) = _; rw [h21]; rfl
      have g24 : (MadeF x b1 b2 Lx).tmps[24]?.getD undef = .int .u8 (x.n0 : Nat) := by show (bif Lx 21 then _ else _) = _; rw [h21]; rfl
      exact i_val rfl (.int .u8 (Int.tmod (x.n0 : Nat) 5)) w' (by rfl) (by go_simp) ⟨by kernel_rfl, hw⟩
    | 23, _ =>
      have h22 := haft 22 (by decide)
      have e25 : (MadeF x b1 b2 Lx).eval (.tmp 25) = .int .u8 (Int.tmod (x.n0 : Nat) 5) := by show (bif Lx 22 then _ else _) = _; rw [h22]; rfl
      have g25 : (MadeF x b1 b2 Lx).tmps[25]?.getD undef = .int .u8 (Int.tmod (x.n0 : Nat) 5) := by show (bif Lx 22 then _ else _) = _; rw [h22]; rfl
      exact i_val rfl (.int .i64 (IntKind.i64.wrap (Int.tmod (x.n0 : Nat) 5))) w' (by rfl) (by go_simp) ⟨by kernel_rfl, hw⟩
    | 24, _ =>
      have g1 : (MadeF x b1 b2 Lx).tmps[1]?.getD undef = .pointer (some ⟨b1, 0, none⟩) := by kernel_rfl
      have e1 : (MadeF x b1 b2 Lx).eval (.tmp 1) = .pointer (some ⟨b1, 0, none⟩) := by kernel_rfl
      exact i_val rfl (.pointer (some ⟨b1, 5, none⟩)) w' (by rfl) (by go_simp) ⟨by kernel_rfl, hw⟩
    | 25, _ =>
      have h24 := haft 24 (by decide)
      have e27 : (MadeF x b1 b2 Lx).eval (.tmp 27) = .pointer (some ⟨b1, 5, none⟩) := by show (bif Lx 24 then _ else _) = _; rw [h24]; rfl
      have g27 : (MadeF x b1 b2 Lx).tmps[27]?.getD undef = .pointer (some ⟨b1, 5, none⟩) := by show (bif Lx 24 then _ else _) = _; rw [h24]; rfl
      exact i_val rfl (.pointer (some ⟨b1, 6, none⟩)) w' (by rfl) (by go_simp) ⟨by kernel_rfl, hw⟩
    | 26, _ =>
      have h25 := haft 25 (by decide)
      have e28 : (MadeF x b1 b2 Lx).eval (.tmp 28) = .pointer (some ⟨b1, 6, none⟩) := by show (bif Lx 25 then _ else _) = _; rw [h25]; rfl
      have g28 : (MadeF x b1 b2 Lx).tmps[28]?.getD undef = .pointer (some ⟨b1, 6, none⟩) := by show (bif Lx 25 then _ else _) = _; rw [h25]; rfl
      exact i_val rfl (.int .u8 (x.n1 : Nat)) w' (by rfl) (by have q : w'.cell? ⟨b1, 6, none⟩ = some (.int .u8 (x.n1 : Nat)) := Kb.cell (i := 0) hw rfl (by rfl); go_simp) ⟨by kernel_rfl, hw⟩
    | 27, _ =>
      have h26 := haft 26 (by decide)
      have e29 : (MadeF x b1 b2 Lx).eval (.tmp 29) = .int .u8 (x.n1 : Nat) := by show (bif Lx 26 then _ else _) = _; rw [h26]; rfl
      have g29 : (MadeF x b1 b2 Lx).tmps[29]?.getD undef = .int .u8 (x.n1 : Nat) := by show (bif Lx 26 then _ else _) = _; rw [h26]; rfl
      exact i_val rfl (.int .u8 (Int.tmod (x.n1 : Nat) 3)) w' (by rfl) (by go_simp) ⟨by kernel_rfl, hw⟩
    | 28, _ =>
      have h27 := haft 27 (by decide)
      have e30 : (MadeF x b1 b2 Lx).eval (.tmp 30) = .int .u8 (Int.tmod (x.n1 : Nat) 3) := by show (bif Lx 27 then _ else _) = _; rw [h27]; rfl
      have g30 : (MadeF x b1 b2 Lx).tmps[30]?.getD undef = .int .u8 (Int.tmod (x.n1 : Nat) 3) := by show (bif Lx 27 then _ else _) = _; rw [h27]; rfl
      exact i_val rfl (.int .i64 (IntKind.i64.wrap (Int.tmod (x.n1 : Nat) 3))) w' (by rfl) (by go_simp) ⟨by kernel_rfl, hw⟩
    | 29, _ =>
      have g1 : (MadeF x b1 b2 Lx).tmps[1]?.getD undef = .pointer (some ⟨b1, 0, none⟩) := by kernel_rfl
      have e1 : (MadeF x b1 b2 Lx).eval (.tmp 1) = .pointer (some ⟨b1, 0, none⟩) := by kernel_rfl
      exact i_val rfl (.pointer (some ⟨b1, 5, none⟩)) w' (by rfl) (by go_simp) ⟨by kernel_rfl, hw⟩
    | 30, _ =>
      have h29 := haft 29 (by decide)
      have e32 : (MadeF x b1 b2 Lx).eval (.tmp 32) = .pointer (some ⟨b1, 5, none⟩) := by show (bif Lx 29 then _ else _) = _; rw [h29]; rfl
      have g32 : (MadeF x b1 b2 Lx).tmps[32]?.getD undef = .pointer (some ⟨b1, 5, none⟩) := by show (bif Lx 29 then _ else _) = _; rw [h29]; rfl
      exact i_val rfl (.pointer (some ⟨b1, 7, none⟩)) w' (by rfl) (by go_simp) ⟨by kernel_rfl, hw⟩
    | 31, _ =>
      have h30 := haft 30 (by decide)
      have e33 : (MadeF x b1 b2 Lx).eval (.tmp 33) = .pointer (some ⟨b1, 7, none⟩) := by show (bif Lx 30 then _ else _) = _; rw [h30]; rfl
      have g33 : (MadeF x b1 b2 Lx).tmps[33]?.getD undef = .pointer (some ⟨b1, 7, none⟩) := by show (bif Lx 30 then _ else _) = _; rw [h30]; rfl
      exact i_val rfl (.int .u8 (x.n2 : Nat)) w' (by rfl) (by have q : w'.cell? ⟨b1, 7, none⟩ = some (.int .u8 (x.n2 : Nat)) := Kb.cell (i := 0) hw rfl (by rfl); go_simp) ⟨by kernel_rfl, hw⟩
    | 32, _ =>
      have h31 := haft 31 (by decide)
      have e34 : (MadeF x b1 b2 Lx).eval (.tmp 34) = .int .u8 (x.n2 : Nat) := by show (bif Lx 31 then _ else _) = _; rw [h31]; rfl
      have g34 : (MadeF x b1 b2 Lx).tmps[34]?.getD undef = .int .u8 (x.n2 : Nat) := by show (bif Lx 31 then _ else _) = _; rw [h31]; rfl
      exact i_val rfl (.int .u8 (Int.tmod (x.n2 : Nat) 3)) w' (by rfl) (by go_simp) ⟨by kernel_rfl, hw⟩
    | 33, _ =>
      have h32 := haft 32 (by decide)
      have e35 : (MadeF x b1 b2 Lx).eval (.tmp 35) = .int .u8 (Int.tmod (x.n2 : Nat) 3) := by show (bif Lx 32 then _ else _) = _; rw [h32]; rfl
      have g35 : (MadeF x b1 b2 Lx).tmps[35]?.getD undef = .int .u8 (Int.tmod (x.n2 : Nat) 3) := by show (bif Lx 32 then _ else _) = _; rw [h32]; rfl
      exact i_val rfl (.int .i64 (IntKind.i64.wrap (Int.tmod (x.n2 : Nat) 3))) w' (by rfl) (by go_simp) ⟨by kernel_rfl, hw⟩
    | 34, _ =>
      have g1 : (MadeF x b1 b2 Lx).tmps[1]?.getD undef = .pointer (some ⟨b1, 0, none⟩) := by kernel_rfl
      have e1 : (MadeF x b1 b2 Lx).eval (.tmp 1) = .pointer (some ⟨b1, 0, none⟩) := by kernel_rfl
      exact i_val rfl (.pointer (some ⟨b1, 8, none⟩)) w' (by rfl) (by go_simp) ⟨by kernel_rfl, hw⟩
    | 35, _ =>
      have h34 := haft 34 (by decide)
      have e37 : (MadeF x b1 b2 Lx).eval (.tmp 37) = .pointer (some ⟨b1, 8, none⟩) := by show (bif Lx 34 then _ else _) = _; rw [h34]; rfl
      have g37 : (MadeF x b1 b2 Lx).tmps[37]?.getD undef = .pointer (some ⟨b1, 8, none⟩) := by show (bif Lx 34 then _ else _) = _; rw [h34]; rfl
      exact i_val rfl (.agg (#[.int .u64 (x.v.r : Nat), .int .u64 (x.v.b : Nat), .int .u32 (x.v.c : Nat), .int .u16 (x.v.p : Nat)])) w' (by rfl) (kb_part hw 0 rfl 52 _ 8 (#[.int .u64 (x.v.r : Nat), .int .u64 (x.v.b : Nat), .int .u32 (x.v.c : Nat), .int .u16 (x.v.p : Nat)]).toList rfl e37 (part_of (by kernel_rfl)) Try.underlying52 rfl (size52)) ⟨by kernel_rfl, hw⟩
    | 36, _ =>
      have h35 := haft 35 (by decide)
      have e38 : (MadeF x b1 b2 Lx).eval (.tmp 38) = .agg (#[.int .u64 (x.v.r : Nat), .int .u64 (x.v.b : Nat), .int .u32 (x.v.c : Nat), .int .u16 (x.v.p : Nat)]) := by show (bif Lx 35 then _ else _) = _; rw [h35]; rfl
      have g38 : (MadeF x b1 b2 Lx).tmps[38]?.getD undef = .agg (#[.int .u64 (x.v.r : Nat), .int .u64 (x.v.b : Nat), .int .u32 (x.v.c : Nat), .int .u16 (x.v.p : Nat)]) := by show (bif Lx 35 then _ else _) = _; rw [h35]; rfl
      exact i_call rfl (.agg (vcA x.v)) 16 #[.agg (#[.int .u64 (x.v.r : Nat), .int .u64 (x.v.b : Nat), .int .u32 (x.v.c : Nat), .int .u16 (x.v.p : Nat)])] (fun w2 => Below w'.heap.size w' w2) (by rfl) (by go_simp) (itold_any x.v w') (fun w2 hb => ⟨by kernel_rfl, hw.next hb⟩)
    | 37, _ =>
      have g1 : (MadeF x b1 b2 Lx).tmps[1]?.getD undef = .pointer (some ⟨b1, 0, none⟩) := by kernel_rfl
      have e1 : (MadeF x b1 b2 Lx).eval (.tmp 1) = .pointer (some ⟨b1, 0, none⟩) := by kernel_rfl
      exact i_val rfl (.pointer (some ⟨b1, 12, none⟩)) w' (by rfl) (by go_simp) ⟨by kernel_rfl, hw⟩
    | 38, _ =>
      have h37 := haft 37 (by decide)
      have e40 : (MadeF x b1 b2 Lx).eval (.tmp 40) = .pointer (some ⟨b1, 12, none⟩) := by show (bif Lx 37 then _ else _) = _; rw [h37]; rfl
      have g40 : (MadeF x b1 b2 Lx).tmps[40]?.getD undef = .pointer (some ⟨b1, 12, none⟩) := by show (bif Lx 37 then _ else _) = _; rw [h37]; rfl
      exact i_val rfl (.pointer (some ⟨b1, 12, none⟩)) w' (by rfl) (by go_simp) ⟨by kernel_rfl, hw⟩
    | 39, _ =>
      have h38 := haft 38 (by decide)
      have e41 : (MadeF x b1 b2 Lx).eval (.tmp 41) = .pointer (some ⟨b1, 12, none⟩) := by show (bif Lx 38 then _ else _) = _; rw [h38]; rfl
      have g41 : (MadeF x b1 b2 Lx).tmps[41]?.getD undef = .pointer (some ⟨b1, 12, none⟩) := by show (bif Lx 38 then _ else _) = _; rw [h38]; rfl
      exact i_val rfl (.int .i64 x.k0) w' (by rfl) (by have q : w'.cell? ⟨b1, 12, none⟩ = some (.int .i64 x.k0) := Kb.cell (i := 0) hw rfl (by rfl); go_simp) ⟨by kernel_rfl, hw⟩
    | 40, _ =>
      have g1 : (MadeF x b1 b2 Lx).tmps[1]?.getD undef = .pointer (some ⟨b1, 0, none⟩) := by kernel_rfl
      have e1 : (MadeF x b1 b2 Lx).eval (.tmp 1) = .pointer (some ⟨b1, 0, none⟩) := by kernel_rfl
      exact i_val rfl (.pointer (some ⟨b1, 12, none⟩)) w' (by rfl) (by go_simp) ⟨by kernel_rfl, hw⟩
    | 41, _ =>
      have h40 := haft 40 (by decide)
      have e43 : (MadeF x b1 b2 Lx).eval (.tmp 43) = .pointer (some ⟨b1, 12, none⟩) := by show (bif Lx 40 then _ else _) = _; rw [h40]; rfl
      have g43 : (MadeF x b1 b2 Lx).tmps[43]?.getD undef = .pointer (some ⟨b1, 12, none⟩) := by show (bif Lx 40 then _ else _) = _; rw [h40]; rfl
      exact i_val rfl (.pointer (some ⟨b1, 13, none⟩)) w' (by rfl) (by go_simp) ⟨by kernel_rfl, hw⟩
    | 42, _ =>
      have h41 := haft 41 (by decide)
      have e44 : (MadeF x b1 b2 Lx).eval (.tmp 44) = .pointer (some ⟨b1, 13, none⟩) := by show (bif Lx 41 then _ else _) = _; rw [h41]; rfl
      have g44 : (MadeF x b1 b2 Lx).tmps[44]?.getD undef = .pointer (some ⟨b1, 13, none⟩) := by show (bif Lx 41 then _ else _) = _; rw [h41]; rfl
      exact i_val rfl (.int .i64 x.k1) w' (by rfl) (by have q : w'.cell? ⟨b1, 13, none⟩ = some (.int .i64 x.k1) := Kb.cell (i := 0) hw rfl (by rfl); go_simp) ⟨by kernel_rfl, hw⟩
    | 43, _ =>
      have g1 : (MadeF x b1 b2 Lx).tmps[1]?.getD undef = .pointer (some ⟨b1, 0, none⟩) := by kernel_rfl
      have e1 : (MadeF x b1 b2 Lx).eval (.tmp 1) = .pointer (some ⟨b1, 0, none⟩) := by kernel_rfl
      exact i_val rfl (.pointer (some ⟨b1, 12, none⟩)) w' (by rfl) (by go_simp) ⟨by kernel_rfl, hw⟩
    | 44, _ =>
      have h43 := haft 43 (by decide)
      have e46 : (MadeF x b1 b2 Lx).eval (.tmp 46) = .pointer (some ⟨b1, 12, none⟩) := by show (bif Lx 43 then _ else _) = _; rw [h43]; rfl
      have g46 : (MadeF x b1 b2 Lx).tmps[46]?.getD undef = .pointer (some ⟨b1, 12, none⟩) := by show (bif Lx 43 then _ else _) = _; rw [h43]; rfl
      exact i_val rfl (.pointer (some ⟨b1, 14, none⟩)) w' (by rfl) (by go_simp) ⟨by kernel_rfl, hw⟩
    | 45, _ =>
      have h44 := haft 44 (by decide)
      have e47 : (MadeF x b1 b2 Lx).eval (.tmp 47) = .pointer (some ⟨b1, 14, none⟩) := by show (bif Lx 44 then _ else _) = _; rw [h44]; rfl
      have g47 : (MadeF x b1 b2 Lx).tmps[47]?.getD undef = .pointer (some ⟨b1, 14, none⟩) := by show (bif Lx 44 then _ else _) = _; rw [h44]; rfl
      exact i_val rfl (.int .i64 x.k2) w' (by rfl) (by have q : w'.cell? ⟨b1, 14, none⟩ = some (.int .i64 x.k2) := Kb.cell (i := 0) hw rfl (by rfl); go_simp) ⟨by kernel_rfl, hw⟩
    | 46, _ =>
      have g1 : (MadeF x b1 b2 Lx).tmps[1]?.getD undef = .pointer (some ⟨b1, 0, none⟩) := by kernel_rfl
      have e1 : (MadeF x b1 b2 Lx).eval (.tmp 1) = .pointer (some ⟨b1, 0, none⟩) := by kernel_rfl
      exact i_val rfl (.pointer (some ⟨b1, 12, none⟩)) w' (by rfl) (by go_simp) ⟨by kernel_rfl, hw⟩
    | 47, _ =>
      have h46 := haft 46 (by decide)
      have e49 : (MadeF x b1 b2 Lx).eval (.tmp 49) = .pointer (some ⟨b1, 12, none⟩) := by show (bif Lx 46 then _ else _) = _; rw [h46]; rfl
      have g49 : (MadeF x b1 b2 Lx).tmps[49]?.getD undef = .pointer (some ⟨b1, 12, none⟩) := by show (bif Lx 46 then _ else _) = _; rw [h46]; rfl
      exact i_val rfl (.pointer (some ⟨b1, 15, none⟩)) w' (by rfl) (by go_simp) ⟨by kernel_rfl, hw⟩
    | 48, _ =>
      have h47 := haft 47 (by decide)
      have e50 : (MadeF x b1 b2 Lx).eval (.tmp 50) = .pointer (some ⟨b1, 15, none⟩) := by show (bif Lx 47 then _ else _) = _; rw [h47]; rfl
      have g50 : (MadeF x b1 b2 Lx).tmps[50]?.getD undef = .pointer (some ⟨b1, 15, none⟩) := by show (bif Lx 47 then _ else _) = _; rw [h47]; rfl
      exact i_val rfl (.int .i64 x.k3) w' (by rfl) (by have q : w'.cell? ⟨b1, 15, none⟩ = some (.int .i64 x.k3) := Kb.cell (i := 0) hw rfl (by rfl); go_simp) ⟨by kernel_rfl, hw⟩
    | 49, _ =>
      have h3 := haft 3 (by decide)
      have e6 : (MadeF x b1 b2 Lx).eval (.tmp 6) = .int .i64 (IntKind.i64.wrap (Int.tmod (x.no : Nat) 16)) := by show (bif Lx 3 then _ else _) = _; rw [h3]; rfl
      have g6 : (MadeF x b1 b2 Lx).tmps[6]?.getD undef = .int .i64 (IntKind.i64.wrap (Int.tmod (x.no : Nat) 16)) := by show (bif Lx 3 then _ else _) = _; rw [h3]; rfl
      have h6 := haft 6 (by decide)
      have e9 : (MadeF x b1 b2 Lx).eval (.tmp 9) = .bool x.f0 := by show (bif Lx 6 then _ else _) = _; rw [h6]; rfl
      have g9 : (MadeF x b1 b2 Lx).tmps[9]?.getD undef = .bool x.f0 := by show (bif Lx 6 then _ else _) = _; rw [h6]; rfl
      have h9 := haft 9 (by decide)
      have e12 : (MadeF x b1 b2 Lx).eval (.tmp 12) = .bool x.f1 := by show (bif Lx 9 then _ else _) = _; rw [h9]; rfl
      have g12 : (MadeF x b1 b2 Lx).tmps[12]?.getD undef = .bool x.f1 := by show (bif Lx 9 then _ else _) = _; rw [h9]; rfl
      have h12 := haft 12 (by decide)
      have e15 : (MadeF x b1 b2 Lx).eval (.tmp 15) = .bool x.f2 := by show (bif Lx 12 then _ else _) = _; rw [h12]; rfl
      have g15 : (MadeF x b1 b2 Lx).tmps[15]?.getD undef = .bool x.f2 := by show (bif Lx 12 then _ else _) = _; rw [h12]; rfl
      have h15 := haft 15 (by decide)
      have e18 : (MadeF x b1 b2 Lx).eval (.tmp 18) = .bool x.f3 := by show (bif Lx 15 then _ else _) = _; rw [h15]; rfl
      have g18 : (MadeF x b1 b2 Lx).tmps[18]?.getD undef = .bool x.f3 := by show (bif Lx 15 then _ else _) = _; rw [h15]; rfl
      have h18 := haft 18 (by decide)
      have e21 : (MadeF x b1 b2 Lx).eval (.tmp 21) = .bool x.f4 := by show (bif Lx 18 then _ else _) = _; rw [h18]; rfl
      have g21 : (MadeF x b1 b2 Lx).tmps[21]?.getD undef = .bool x.f4 := by show (bif Lx 18 then _ else _) = _; rw [h18]; rfl
      have h23 := haft 23 (by decide)
      have e26 : (MadeF x b1 b2 Lx).eval (.tmp 26) = .int .i64 (IntKind.i64.wrap (Int.tmod (x.n0 : Nat) 5)) := by show (bif Lx 23 then _ else _) = _; rw [h23]; rfl
      have g26 : (MadeF x b1 b2 Lx).tmps[26]?.getD undef = .int .i64 (IntKind.i64.wrap (Int.tmod (x.n0 : Nat) 5)) := by show (bif Lx 23 then _ else _) = _; rw [h23]; rfl
      have h28 := haft 28 (by decide)
      have e31 : (MadeF x b1 b2 Lx).eval (.tmp 31) = .int .i64 (IntKind.i64.wrap (Int.tmod (x.n1 : Nat) 3)) := by show (bif Lx 28 then _ else _) = _; rw [h28]; rfl
      have g31 : (MadeF x b1 b2 Lx).tmps[31]?.getD undef = .int .i64 (IntKind.i64.wrap (Int.tmod (x.n1 : Nat) 3)) := by show (bif Lx 28 then _ else _) = _; rw [h28]; rfl
      have h33 := haft 33 (by decide)
      have e36 : (MadeF x b1 b2 Lx).eval (.tmp 36) = .int .i64 (IntKind.i64.wrap (Int.tmod (x.n2 : Nat) 3)) := by show (bif Lx 33 then _ else _) = _; rw [h33]; rfl
      have g36 : (MadeF x b1 b2 Lx).tmps[36]?.getD undef = .int .i64 (IntKind.i64.wrap (Int.tmod (x.n2 : Nat) 3)) := by show (bif Lx 33 then _ else _) = _; rw [h33]; rfl
      have h36 := haft 36 (by decide)
      have e39 : (MadeF x b1 b2 Lx).eval (.tmp 39) = .agg (vcA x.v) := by show (bif Lx 36 then _ else _) = _; rw [h36]; rfl
      have g39 : (MadeF x b1 b2 Lx).tmps[39]?.getD undef = .agg (vcA x.v) := by show (bif Lx 36 then _ else _) = _; rw [h36]; rfl
      have h39 := haft 39 (by decide)
      have e42 : (MadeF x b1 b2 Lx).eval (.tmp 42) = .int .i64 x.k0 := by show (bif Lx 39 then _ else _) = _; rw [h39]; rfl
      have g42 : (MadeF x b1 b2 Lx).tmps[42]?.getD undef = .int .i64 x.k0 := by show (bif Lx 39 then _ else _) = _; rw [h39]; rfl
      have h42 := haft 42 (by decide)
      have e45 : (MadeF x b1 b2 Lx).eval (.tmp 45) = .int .i64 x.k1 := by show (bif Lx 42 then _ else _) = _; rw [h42]; rfl
      have g45 : (MadeF x b1 b2 Lx).tmps[45]?.getD undef = .int .i64 x.k1 := by show (bif Lx 42 then _ else _) = _; rw [h42]; rfl
      have h45 := haft 45 (by decide)
      have e48 : (MadeF x b1 b2 Lx).eval (.tmp 48) = .int .i64 x.k2 := by show (bif Lx 45 then _ else _) = _; rw [h45]; rfl
      have g48 : (MadeF x b1 b2 Lx).tmps[48]?.getD undef = .int .i64 x.k2 := by show (bif Lx 45 then _ else _) = _; rw [h45]; rfl
      have h48 := haft 48 (by decide)
      have e51 : (MadeF x b1 b2 Lx).eval (.tmp 51) = .int .i64 x.k3 := by show (bif Lx 48 then _ else _) = _; rw [h48]; rfl
      have g51 : (MadeF x b1 b2 Lx).tmps[51]?.getD undef = .int .i64 x.k3 := by show (bif Lx 48 then _ else _) = _; rw [h48]; rfl
      exact i_val rfl (.agg (poA (madeP x))) w' (by rfl) (run_build_of 62 [(2, .tmp 6), (5, .tmp 9), (4, .tmp 12), (6, .tmp 15), (7, .tmp 18), (3, .tmp 21), (8, .tmp 26), (9, .tmp 31), (10, .tmp 36), (11, .tmp 39), (12, .tmp 42), (13, .tmp 45), (14, .tmp 48), (15, .tmp 51)] rfl _ (poA (madeP x)) (by simp only [List.map_cons, List.map_nil, e6, e9, e12, e15, e18, e21, e26, e31, e36, e39, e42, e45, e48, e51]; rfl) (by kernel_rfl)) ⟨by kernel_rfl, hw⟩
    | 50, _ =>
      have g2 : (MadeF x b1 b2 Lx).tmps[2]?.getD undef = .pointer (some ⟨b2, 0, none⟩) := by kernel_rfl
      have e2 : (MadeF x b1 b2 Lx).eval (.tmp 2) = .pointer (some ⟨b2, 0, none⟩) := by kernel_rfl
      have h49 := haft 49 (by decide)
      have e52 : (MadeF x b1 b2 Lx).eval (.tmp 52) = .agg (poA (madeP x)) := by show (bif Lx 49 then _ else _) = _; rw [h49]; rfl
      have g52 : (MadeF x b1 b2 Lx).tmps[52]?.getD undef = .agg (poA (madeP x)) := by show (bif Lx 49 then _ else _) = _; rw [h49]; rfl
      have hw0 : Kb w [(b1, lpA x, 55), (b2, nil21, 62)] w' := by rw [hL] at hw; exact hw
      exact i_wp rfl (by rfl) (wp_store_row 62 _ _ rfl b2 (poA (madeP x)) e2 e52 62 (nil21) (Kb.at (i := 1) hw0 rfl) (size50) (by rfl) (po_all _) ⟨by kernel_rfl, cast_blk (Kb.row (i := 1) hw0 rfl (poA (madeP x))) (by rfl)⟩)
    | k + 51, h =>
      exfalso
      have h2 : k + 51 < 51 := h
      omega
  intro Lx ac w3 hI hall
  obtain ⟨rfl, hw⟩ := hI
  have hfr : MadeF x b1 b2 Lx = { tmps := #[.agg (lpA x), .pointer (some ⟨b1, 0, none⟩), .pointer (some ⟨b2, 0, none⟩), .pointer (some ⟨b1, 16, none⟩), .int .u16 (x.no : Nat), .int .u16 (Int.tmod (x.no : Nat) 16), .int .i64 (IntKind.i64.wrap (Int.tmod (x.no : Nat) 16)), .pointer (some ⟨b1, 0, none⟩), .pointer (some ⟨b1, 0, none⟩), .bool x.f0, .pointer (some ⟨b1, 0, none⟩), .pointer (some ⟨b1, 1, none⟩), .bool x.f1, .pointer (some ⟨b1, 0, none⟩), .pointer (some ⟨b1, 2, none⟩), .bool x.f2, .pointer (some ⟨b1, 0, none⟩), .pointer (some ⟨b1, 3, none⟩), .bool x.f3, .pointer (some ⟨b1, 0, none⟩), .pointer (some ⟨b1, 4, none⟩), .bool x.f4, .pointer (some ⟨b1, 5, none⟩), .pointer (some ⟨b1, 5, none⟩), .int .u8 (x.n0 : Nat), .int .u8 (Int.tmod (x.n0 : Nat) 5), .int .i64 (IntKind.i64.wrap (Int.tmod (x.n0 : Nat) 5)), .pointer (some ⟨b1, 5, none⟩), .pointer (some ⟨b1, 6, none⟩), .int .u8 (x.n1 : Nat), .int .u8 (Int.tmod (x.n1 : Nat) 3), .int .i64 (IntKind.i64.wrap (Int.tmod (x.n1 : Nat) 3)), .pointer (some ⟨b1, 5, none⟩), .pointer (some ⟨b1, 7, none⟩), .int .u8 (x.n2 : Nat), .int .u8 (Int.tmod (x.n2 : Nat) 3), .int .i64 (IntKind.i64.wrap (Int.tmod (x.n2 : Nat) 3)), .pointer (some ⟨b1, 8, none⟩), .agg (#[.int .u64 (x.v.r : Nat), .int .u64 (x.v.b : Nat), .int .u32 (x.v.c : Nat), .int .u16 (x.v.p : Nat)]), .agg (vcA x.v), .pointer (some ⟨b1, 12, none⟩), .pointer (some ⟨b1, 12, none⟩), .int .i64 x.k0, .pointer (some ⟨b1, 12, none⟩), .pointer (some ⟨b1, 13, none⟩), .int .i64 x.k1, .pointer (some ⟨b1, 12, none⟩), .pointer (some ⟨b1, 14, none⟩), .int .i64 x.k2, .pointer (some ⟨b1, 12, none⟩), .pointer (some ⟨b1, 15, none⟩), .int .i64 x.k3, .agg (poA (madeP x))], defers := [] } := by unfold MadeF; simp only [hall 0 (by decide), hall 1 (by decide), hall 2 (by decide), hall 3 (by decide), hall 4 (by decide), hall 5 (by decide), hall 6 (by decide), hall 7 (by decide), hall 8 (by decide), hall 9 (by decide), hall 10 (by decide), hall 11 (by decide), hall 12 (by decide), hall 13 (by decide), hall 14 (by decide), hall 15 (by decide), hall 16 (by decide), hall 17 (by decide), hall 18 (by decide), hall 19 (by decide), hall 20 (by decide), hall 21 (by decide), hall 22 (by decide), hall 23 (by decide), hall 24 (by decide), hall 25 (by decide), hall 26 (by decide), hall 27 (by decide), hall 28 (by decide), hall 29 (by decide), hall 30 (by decide), hall 31 (by decide), hall 32 (by decide), hall 33 (by decide), hall 34 (by decide), hall 35 (by decide), hall 36 (by decide), hall 37 (by decide), hall 38 (by decide), hall 39 (by decide), hall 40 (by decide), hall 41 (by decide), hall 42 (by decide), hall 43 (by decide), hall 44 (by decide), hall 45 (by decide), hall 46 (by decide), hall 47 (by decide), hall 48 (by decide), hall 49 (by decide), cond_true]
  rw [hfr]
  clear hfr
  have hL50 := hall 50 (by decide)
  simp only [hL50, cond_true] at hw
  have K3 := Lib.hid (show Kb w [(b1, lpA x, 55), (b2, poA (madeP x), 62)] w3 from hw)
  clear hw hall hL50
  go_wp2_with fail
  refine bodyPost_ret (v := .agg (poA (madeP x))) (results_cell_row Try.results15 _ _ b2 62 (poA (madeP x)) (0, 0) _ rfl (K3.out.at (i := 1) rfl) Try.underlying62 rfl (po_info _)) rfl ?_
  exact ⟨rfl, K3.out.below⟩
end Go.Proofs.Ytojijeaofkndpaa
