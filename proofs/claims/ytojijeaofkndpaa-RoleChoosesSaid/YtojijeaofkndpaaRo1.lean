/- A port of plain data; a way; which way is ahead; a role. -/
import Derived.Test.YtojijeaofkndpaaRo0
namespace Go.Proofs.Ytojijeaofkndpaa
open Go.RowKit
attribute [local irreducible] wpQuiet wpList
set_option linter.unusedSimpArgs false
set_option linter.unusedVariables false

/-- Two results, both rows. -/
theorem results_rows {P : Program} {fn : Func} {p u : Tmp} {ty ty' : TypeId} (h : fn.results = #[.cell p ty, .cell u ty']) (tmps : Array Value) (w : World) (g g' : Nat) (t t' : TypeId) (cs cs' : Array Value) {d d' : TypeDesc}
    (hp : tmps.getD p undef = .pointer (some ⟨g, 0, none⟩)) (hv : tmps.getD u undef = .pointer (some ⟨g', 0, none⟩)) (hg : Blk w g cs t) (hg' : Blk w g' cs' t')
    (hu : P.underlying ty = some d) (hd : (match d with | .struct _ | .array _ _ => true | _ => false) = true) (hi : (P.info? ty).map (·.size) = some cs.size)
    (hu' : P.underlying ty' = some d') (hd' : (match d' with | .struct _ | .array _ _ => true | _ => false) = true) (hi' : (P.info? ty').map (·.size) = some cs'.size) :
    (results fn tmps).run P w = .ok (.tuple #[.agg cs, .agg cs']) w := by
  have hp' : tmps[p]?.getD undef = .pointer (some ⟨g, 0, none⟩) := by simpa using hp
  have hv' : tmps[u]?.getD undef = .pointer (some ⟨g', 0, none⟩) := by simpa using hv
  simp [results, h, hp', hv', asAddr, run_loadVar_row w g t ty cs (0, 0) d hg hu hd hi, run_loadVar_row w g' t' ty' cs' (0, 0) d' hg' hu' hd' hi']
/-- The slots, while the region runs. -/
def ToldF (x : Rp) (b1 b2 b3 b4 : Nat) (L : Nat → Bool) : Act := { tmps := #[.agg (lqA x), .pointer (some ⟨b1, 0, none⟩), .pointer (some ⟨b2, 0, none⟩), .pointer (some ⟨b3, 0, none⟩), .pointer (some ⟨b4, 0, none⟩), .pointer (some ⟨b1, 0, none⟩), .bool x.on, .pointer (some ⟨b1, 1, none⟩), .bool x.hd, .pointer (some ⟨b1, 2, none⟩), .int .u64 (x.v.r : Nat), .pointer (some ⟨b1, 4, none⟩), .int .u32 (x.v.c : Nat), .pointer (some ⟨b1, 3, none⟩), .int .u64 (x.v.b : Nat), .pointer (some ⟨b1, 6, none⟩), .int .u16 (x.v.p : Nat), .agg (vcA x.v), .pointer (some ⟨b1, 5, none⟩), .int .u32 (x.c : Nat), .pointer (some ⟨b1, 7, none⟩), .int .u16 (x.i : Nat), .agg (rpA x), bif L 0 then .pointer (some ⟨b1, 0, none⟩) else undef, bif L 1 then .bool x.on else undef, bif L 2 then .pointer (some ⟨b1, 1, none⟩) else undef, bif L 3 then .bool x.hd else undef, bif L 4 then .pointer (some ⟨b1, 2, none⟩) else undef, bif L 5 then .int .u64 (x.v.r : Nat) else undef, bif L 6 then .pointer (some ⟨b1, 4, none⟩) else undef, bif L 7 then .int .u32 (x.v.c : Nat) else undef, bif L 8 then .pointer (some ⟨b1, 3, none⟩) else undef, bif L 9 then .int .u64 (x.v.b : Nat) else undef, bif L 10 then .pointer (some ⟨b1, 6, none⟩) else undef, bif L 11 then .int .u16 (x.v.p : Nat) else undef, bif L 12 then .agg (vcA x.v) else undef, bif L 13 then .pointer (some ⟨b1, 5, none⟩) else undef, bif L 14 then .int .u32 (x.c : Nat) else undef, bif L 15 then .pointer (some ⟨b1, 7, none⟩) else undef, bif L 16 then .int .u16 (x.i : Nat) else undef, bif L 17 then .agg (rpA x) else undef, bif L 18 then .agg (rpA x) else undef], defers := [] }
set_option maxHeartbeats 8000000 in
set_option maxRecDepth 100000 in
theorem told15_any (x : Rp) (w : World) : Calls Try.prog 20 #[.agg (lqA x)] w fun e w' => e = .returned (.tuple #[.agg (rpA x), .agg (rpA x)]) ∧ Below w.heap.size w w' := by
  have K := Lib.hid (Kb.nil w)
  go_enter Try.func20, Try.ntmps20
  go_upto_region 0 with fail
  refine wp_region_lit ?_
  refine kb_box K.out 81 (.tmp 0) (lqA x) rfl rfl (by rfl) ?_
  intro b1 w1 hb1 hk
  have K1 := Lib.hid (show Kb w [(b1, lqA x, 81)] w1 from hk)
  clear hk hb1
  (try simp only [Act.put, List.getElem_toArray, List.getElem_cons_succ, List.getElem_cons_zero, List.setIfInBounds_toArray, List.set_cons_zero, List.set_cons_succ])
  refine kb_alloc K1.out 47 (nil8) rfl z47 (by rfl) ?_
  intro b2 w2 hb2 hk
  have K2 := Lib.hid (show Kb w [(b1, lqA x, 81), (b2, nil8, 47)] w2 from hk)
  clear hk hb2
  (try simp only [Act.put, List.getElem_toArray, List.getElem_cons_succ, List.getElem_cons_zero, List.setIfInBounds_toArray, List.set_cons_zero, List.set_cons_succ])
  refine kb_alloc K2.out 77 (nil8) rfl z77 (by rfl) ?_
  intro b3 w3 hb3 hk
  have K3 := Lib.hid (show Kb w [(b1, lqA x, 81), (b2, nil8, 47), (b3, nil8, 77)] w3 from hk)
  clear hk hb3
  (try simp only [Act.put, List.getElem_toArray, List.getElem_cons_succ, List.getElem_cons_zero, List.setIfInBounds_toArray, List.set_cons_zero, List.set_cons_succ])
  refine wpList_nil ?_
  go_upto_region 1 with fail
  refine wp_region_lit ?_
  refine wpList_val (.pointer (some ⟨b1, 0, none⟩)) (by rfl) (by go_simp) ?_
  (try simp only [Act.put, List.getElem_toArray, List.getElem_cons_succ, List.getElem_cons_zero, List.setIfInBounds_toArray, List.set_cons_zero, List.set_cons_succ])
  refine wpList_val (.bool x.on) (by rfl) (by have q : w3.cell? ⟨b1, 0, none⟩ = some (.bool x.on) := K3.out.cell (i := 0) rfl (by rfl); go_simp) ?_
  (try simp only [Act.put, List.getElem_toArray, List.getElem_cons_succ, List.getElem_cons_zero, List.setIfInBounds_toArray, List.set_cons_zero, List.set_cons_succ])
  refine wpList_val (.pointer (some ⟨b1, 1, none⟩)) (by rfl) (by go_simp) ?_
  (try simp only [Act.put, List.getElem_toArray, List.getElem_cons_succ, List.getElem_cons_zero, List.setIfInBounds_toArray, List.set_cons_zero, List.set_cons_succ])
  refine wpList_val (.bool x.hd) (by rfl) (by have q : w3.cell? ⟨b1, 1, none⟩ = some (.bool x.hd) := K3.out.cell (i := 0) rfl (by rfl); go_simp) ?_
  (try simp only [Act.put, List.getElem_toArray, List.getElem_cons_succ, List.getElem_cons_zero, List.setIfInBounds_toArray, List.set_cons_zero, List.set_cons_succ])
  refine wpList_val (.pointer (some ⟨b1, 2, none⟩)) (by rfl) (by go_simp) ?_
  (try simp only [Act.put, List.getElem_toArray, List.getElem_cons_succ, List.getElem_cons_zero, List.setIfInBounds_toArray, List.set_cons_zero, List.set_cons_succ])
  refine wpList_val (.int .u64 (x.v.r : Nat)) (by rfl) (by have q : w3.cell? ⟨b1, 2, none⟩ = some (.int .u64 (x.v.r : Nat)) := K3.out.cell (i := 0) rfl (by rfl); go_simp) ?_
  (try simp only [Act.put, List.getElem_toArray, List.getElem_cons_succ, List.getElem_cons_zero, List.setIfInBounds_toArray, List.set_cons_zero, List.set_cons_succ])
  refine wpList_val (.pointer (some ⟨b1, 4, none⟩)) (by rfl) (by go_simp) ?_
  (try simp only [Act.put, List.getElem_toArray, List.getElem_cons_succ, List.getElem_cons_zero, List.setIfInBounds_toArray, List.set_cons_zero, List.set_cons_succ])
  refine wpList_val (.int .u32 (x.v.c : Nat)) (by rfl) (by have q : w3.cell? ⟨b1, 4, none⟩ = some (.int .u32 (x.v.c : Nat)) := K3.out.cell (i := 0) rfl (by rfl); go_simp) ?_
  (try simp only [Act.put, List.getElem_toArray, List.getElem_cons_succ, List.getElem_cons_zero, List.setIfInBounds_toArray, List.set_cons_zero, List.set_cons_succ])
  refine wpList_val (.pointer (some ⟨b1, 3, none⟩)) (by rfl) (by go_simp) ?_
  (try simp only [Act.put, List.getElem_toArray, List.getElem_cons_succ, List.getElem_cons_zero, List.setIfInBounds_toArray, List.set_cons_zero, List.set_cons_succ])
  refine wpList_val (.int .u64 (x.v.b : Nat)) (by rfl) (by have q : w3.cell? ⟨b1, 3, none⟩ = some (.int .u64 (x.v.b : Nat)) := K3.out.cell (i := 0) rfl (by rfl); go_simp) ?_
  (try simp only [Act.put, List.getElem_toArray, List.getElem_cons_succ, List.getElem_cons_zero, List.setIfInBounds_toArray, List.set_cons_zero, List.set_cons_succ])
  refine wpList_val (.pointer (some ⟨b1, 6, none⟩)) (by rfl) (by go_simp) ?_
  (try simp only [Act.put, List.getElem_toArray, List.getElem_cons_succ, List.getElem_cons_zero, List.setIfInBounds_toArray, List.set_cons_zero, List.set_cons_succ])
  refine wpList_val (.int .u16 (x.v.p : Nat)) (by rfl) (by have q : w3.cell? ⟨b1, 6, none⟩ = some (.int .u16 (x.v.p : Nat)) := K3.out.cell (i := 0) rfl (by rfl); go_simp) ?_
  (try simp only [Act.put, List.getElem_toArray, List.getElem_cons_succ, List.getElem_cons_zero, List.setIfInBounds_toArray, List.set_cons_zero, List.set_cons_succ])
  refine wpList_val (.agg (vcA x.v)) (by rfl) (run_build_of 42 [(0, .tmp 10), (1, .tmp 12), (2, .tmp 14), (3, .tmp 16)] rfl _ (vcA x.v) rfl (by kernel_rfl)) ?_
  (try simp only [Act.put, List.getElem_toArray, List.getElem_cons_succ, List.getElem_cons_zero, List.setIfInBounds_toArray, List.set_cons_zero, List.set_cons_succ])
  refine wpList_val (.pointer (some ⟨b1, 5, none⟩)) (by rfl) (by go_simp) ?_
  (try simp only [Act.put, List.getElem_toArray, List.getElem_cons_succ, List.getElem_cons_zero, List.setIfInBounds_toArray, List.set_cons_zero, List.set_cons_succ])
  refine wpList_val (.int .u32 (x.c : Nat)) (by rfl) (by have q : w3.cell? ⟨b1, 5, none⟩ = some (.int .u32 (x.c : Nat)) := K3.out.cell (i := 0) rfl (by rfl); go_simp) ?_
  (try simp only [Act.put, List.getElem_toArray, List.getElem_cons_succ, List.getElem_cons_zero, List.setIfInBounds_toArray, List.set_cons_zero, List.set_cons_succ])
  refine wpList_val (.pointer (some ⟨b1, 7, none⟩)) (by rfl) (by go_simp) ?_
  (try simp only [Act.put, List.getElem_toArray, List.getElem_cons_succ, List.getElem_cons_zero, List.setIfInBounds_toArray, List.set_cons_zero, List.set_cons_succ])
  refine wpList_val (.int .u16 (x.i : Nat)) (by rfl) (by have q : w3.cell? ⟨b1, 7, none⟩ = some (.int .u16 (x.i : Nat)) := K3.out.cell (i := 0) rfl (by rfl); go_simp) ?_
  (try simp only [Act.put, List.getElem_toArray, List.getElem_cons_succ, List.getElem_cons_zero, List.setIfInBounds_toArray, List.set_cons_zero, List.set_cons_succ])
  refine wpList_val (.agg (rpA x)) (by rfl) (run_build_of 77 [(0, .tmp 6), (1, .tmp 8), (2, .tmp 17), (3, .tmp 19), (4, .tmp 21)] rfl _ (rpA x) rfl (by kernel_rfl)) ?_
  (try simp only [Act.put, List.getElem_toArray, List.getElem_cons_succ, List.getElem_cons_zero, List.setIfInBounds_toArray, List.set_cons_zero, List.set_cons_succ])
  refine kb_alloc K3.out 77 (nil8) rfl z77 (by rfl) ?_
  intro b4 w4 hb4 hk
  have K4 := Lib.hid (show Kb w [(b1, lqA x, 81), (b2, nil8, 47), (b3, nil8, 77), (b4, nil8, 77)] w4 from hk)
  clear hk hb4
  (try simp only [Act.put, List.getElem_toArray, List.getElem_cons_succ, List.getElem_cons_zero, List.setIfInBounds_toArray, List.set_cons_zero, List.set_cons_succ])
  refine kb_row K4.out 3 rfl 77 _ _ (rpA x) rfl rfl rfl rfl (size77) (by rfl) (by kernel_rfl) ?_
  intro w5 hk
  have K5 := Lib.hid (show Kb w [(b1, lqA x, 81), (b2, nil8, 47), (b3, nil8, 77), (b4, rpA x, 77)] w5 from hk)
  clear hk
  (try simp only [Act.put, List.getElem_toArray, List.getElem_cons_succ, List.getElem_cons_zero, List.setIfInBounds_toArray, List.set_cons_zero, List.set_cons_succ])
  refine wpList_nil ?_
  go_upto_region 2 with fail
  refine wp_region_inv_dc (I := fun L ac w' => ac = ToldF x b1 b2 b3 b4 L ∧ Kb w [(b1, lqA x, 81), (b2, bif L 19 then rpA x else nil8, 47), (b3, bif L 20 then rpA x else nil8, 77), (b4, rpA x, 77)] w') (by kernel_rfl) (by kernel_rfl) ⟨by kernel_rfl, K5.out.drew⟩ ?_ ?_
  · intro i hi Lx ac w' hI hL haft hdc
    obtain ⟨rfl, hw⟩ := hI
    match i, hi with
    | 0, _ =>
      have g1 : (ToldF x b1 b2 b3 b4 Lx).tmps[1]?.getD undef = .pointer (some ⟨b1, 0, none⟩) := by kernel_rfl
      have e1 : (ToldF x b1 b2 b3 b4 Lx).eval (.tmp 1) = .pointer (some ⟨b1, 0, none⟩) := by kernel_rfl
      exact i_val rfl (.pointer (some ⟨b1, 0, none⟩)) w' (by rfl) (by go_simp) ⟨by kernel_rfl, hw⟩
    | 1, _ =>
      have h0 := haft 0 (by decide)
      have e23 : (ToldF x b1 b2 b3 b4 Lx).eval (.tmp 23) = .pointer (some ⟨b1, 0, none⟩) := by show (bif Lx 0 then _ else _) = _; rw [h0]; rfl
      have g23 : (ToldF x b1 b2 b3 b4 Lx).tmps[23]?.getD undef = .pointer (some ⟨b1, 0, none⟩) := by show (bif Lx 0 then _ else _) = _; rw [h0]; rfl
      exact i_val rfl (.bool x.on) w' (by rfl) (by have q : w'.cell? ⟨b1, 0, none⟩ = some (.bool x.on) := Kb.cell (i := 0) hw rfl (by rfl); go_simp) ⟨by kernel_rfl, hw⟩
    | 2, _ =>
      have g1 : (ToldF x b1 b2 b3 b4 Lx).tmps[1]?.getD undef = .pointer (some ⟨b1, 0, none⟩) := by kernel_rfl
      have e1 : (ToldF x b1 b2 b3 b4 Lx).eval (.tmp 1) = .pointer (some ⟨b1, 0, none⟩) := by kernel_rfl
      exact i_val rfl (.pointer (some ⟨b1, 1, none⟩)) w' (by rfl) (by go_simp) ⟨by kernel_rfl, hw⟩
    | 3, _ =>
      have h2 := haft 2 (by decide)
      have e25 : (ToldF x b1 b2 b3 b4 Lx).eval (.tmp 25) = .pointer (some ⟨b1, 1, none⟩) := by show (bif Lx 2 then _ else _) = _; rw [h2]; rfl
      have g25 : (ToldF x b1 b2 b3 b4 Lx).tmps[25]?.getD undef = .pointer (some ⟨b1, 1, none⟩) := by show (bif Lx 2 then _ else _) = _; rw [h2]; rfl
      exact i_val rfl (.bool x.hd) w' (by rfl) (by have q : w'.cell? ⟨b1, 1, none⟩ = some (.bool x.hd) := Kb.cell (i := 0) hw rfl (by rfl); go_simp) ⟨by kernel_rfl, hw⟩
    | 4, _ =>
      have g1 : (ToldF x b1 b2 b3 b4 Lx).tmps[1]?.getD undef = .pointer (some ⟨b1, 0, none⟩) := by kernel_rfl
      have e1 : (ToldF x b1 b2 b3 b4 Lx).eval (.tmp 1) = .pointer (some ⟨b1, 0, none⟩) := by kernel_rfl
      exact i_val rfl (.pointer (some ⟨b1, 2, none⟩)) w' (by rfl) (by go_simp) ⟨by kernel_rfl, hw⟩
    | 5, _ =>
      have h4 := haft 4 (by decide)
      have e27 : (ToldF x b1 b2 b3 b4 Lx).eval (.tmp 27) = .pointer (some ⟨b1, 2, none⟩) := by show (bif Lx 4 then _ else _) = _; rw [h4]; rfl
      have g27 : (ToldF x b1 b2 b3 b4 Lx).tmps[27]?.getD undef = .pointer (some ⟨b1, 2, none⟩) := by show (bif Lx 4 then _ else _) = _; rw [h4]; rfl
      exact i_val rfl (.int .u64 (x.v.r : Nat)) w' (by rfl) (by have q : w'.cell? ⟨b1, 2, none⟩ = some (.int .u64 (x.v.r : Nat)) := Kb.cell (i := 0) hw rfl (by rfl); go_simp) ⟨by kernel_rfl, hw⟩
    | 6, _ =>
      have g1 : (ToldF x b1 b2 b3 b4 Lx).tmps[1]?.getD undef = .pointer (some ⟨b1, 0, none⟩) := by kernel_rfl
      have e1 : (ToldF x b1 b2 b3 b4 Lx).eval (.tmp 1) = .pointer (some ⟨b1, 0, none⟩) := by kernel_rfl
      exact i_val rfl (.pointer (some ⟨b1, 4, none⟩)) w' (by rfl) (by go_simp) ⟨by kernel_rfl, hw⟩
    | 7, _ =>
      have h6 := haft 6 (by decide)
      have e29 : (ToldF x b1 b2 b3 b4 Lx).eval (.tmp 29) = .pointer (some ⟨b1, 4, none⟩) := by show (bif Lx 6 then _ else _) = _; rw [h6]; rfl
      have g29 : (ToldF x b1 b2 b3 b4 Lx).tmps[29]?.getD undef = .pointer (some ⟨b1, 4, none⟩) := by show (bif Lx 6 then _ else _) = _; rw [h6]; rfl
      exact i_val rfl (.int .u32 (x.v.c : Nat)) w' (by rfl) (by have q : w'.cell? ⟨b1, 4, none⟩ = some (.int .u32 (x.v.c : Nat)) := Kb.cell (i := 0) hw rfl (by rfl); go_simp) ⟨by kernel_rfl, hw⟩
    | 8, _ =>
      have g1 : (ToldF x b1 b2 b3 b4 Lx).tmps[1]?.getD undef = .pointer (some ⟨b1, 0, none⟩) := by kernel_rfl
      have e1 : (ToldF x b1 b2 b3 b4 Lx).eval (.tmp 1) = .pointer (some ⟨b1, 0, none⟩) := by kernel_rfl
      exact i_val rfl (.pointer (some ⟨b1, 3, none⟩)) w' (by rfl) (by go_simp) ⟨by kernel_rfl, hw⟩
    | 9, _ =>
      have h8 := haft 8 (by decide)
      have e31 : (ToldF x b1 b2 b3 b4 Lx).eval (.tmp 31) = .pointer (some ⟨b1, 3, none⟩) := by show (bif Lx 8 then _ else _) = _; rw [h8]; rfl
      have g31 : (ToldF x b1 b2 b3 b4 Lx).tmps[31]?.getD undef = .pointer (some ⟨b1, 3, none⟩) := by show (bif Lx 8 then _ else _) = _; rw [h8]; rfl
      exact i_val rfl (.int .u64 (x.v.b : Nat)) w' (by rfl) (by have q : w'.cell? ⟨b1, 3, none⟩ = some (.int .u64 (x.v.b : Nat)) := Kb.cell (i := 0) hw rfl (by rfl); go_simp) ⟨by kernel_rfl, hw⟩
    | 10, _ =>
      have g1 : (ToldF x b1 b2 b3 b4 Lx).tmps[1]?.getD undef = .pointer (some ⟨b1, 0, none⟩) := by kernel_rfl
      have e1 : (ToldF x b1 b2 b3 b4 Lx).eval (.tmp 1) = .pointer (some ⟨b1, 0, none⟩) := by kernel_rfl
      exact i_val rfl (.pointer (some ⟨b1, 6, none⟩)) w' (by rfl) (by go_simp) ⟨by kernel_rfl, hw⟩
    | 11, _ =>
      have h10 := haft 10 (by decide)
      have e33 : (ToldF x b1 b2 b3 b4 Lx).eval (.tmp 33) = .pointer (some ⟨b1, 6, none⟩) := by show (bif Lx 10 then _ else _) = _; rw [h10]; rfl
      have g33 : (ToldF x b1 b2 b3 b4 Lx).tmps[33]?.getD undef = .pointer (some ⟨b1, 6, none⟩) := by show (bif Lx 10 then _ else _) = _; rw [h10]; rfl
      exact i_val rfl (.int .u16 (x.v.p : Nat)) w' (by rfl) (by have q : w'.cell? ⟨b1, 6, none⟩ = some (.int .u16 (x.v.p : Nat)) := Kb.cell (i := 0) hw rfl (by rfl); go_simp) ⟨by kernel_rfl, hw⟩
    | 12, _ =>
      have h5 := haft 5 (by decide)
      have e28 : (ToldF x b1 b2 b3 b4 Lx).eval (.tmp 28) = .int .u64 (x.v.r : Nat) := by show (bif Lx 5 then _ else _) = _; rw [h5]; rfl
      have g28 : (ToldF x b1 b2 b3 b4 Lx).tmps[28]?.getD undef = .int .u64 (x.v.r : Nat) := by show (bif Lx 5 then _ else _) = _; rw [h5]; rfl
      have h7 := haft 7 (by decide)
      have e30 : (ToldF x b1 b2 b3 b4 Lx).eval (.tmp 30) = .int .u32 (x.v.c : Nat) := by show (bif Lx 7 then _ else _) = _; rw [h7]; rfl
      have g30 : (ToldF x b1 b2 b3 b4 Lx).tmps[30]?.getD undef = .int .u32 (x.v.c : Nat) := by show (bif Lx 7 then _ else _) = _; rw [h7]; rfl
      have h9 := haft 9 (by decide)
      have e32 : (ToldF x b1 b2 b3 b4 Lx).eval (.tmp 32) = .int .u64 (x.v.b : Nat) := by show (bif Lx 9 then _ else _) = _; rw [h9]; rfl
      have g32 : (ToldF x b1 b2 b3 b4 Lx).tmps[32]?.getD undef = .int .u64 (x.v.b : Nat) := by show (bif Lx 9 then _ else _) = _; rw [h9]; rfl
      have h11 := haft 11 (by decide)
      have e34 : (ToldF x b1 b2 b3 b4 Lx).eval (.tmp 34) = .int .u16 (x.v.p : Nat) := by show (bif Lx 11 then _ else _) = _; rw [h11]; rfl
      have g34 : (ToldF x b1 b2 b3 b4 Lx).tmps[34]?.getD undef = .int .u16 (x.v.p : Nat) := by show (bif Lx 11 then _ else _) = _; rw [h11]; rfl
      exact i_val rfl (.agg (vcA x.v)) w' (by rfl) (run_build_of 44 [(0, .tmp 28), (1, .tmp 30), (2, .tmp 32), (3, .tmp 34)] rfl _ (vcA x.v) (by simp only [List.map_cons, List.map_nil, e28, e30, e32, e34]; rfl) (by kernel_rfl)) ⟨by kernel_rfl, hw⟩
    | 13, _ =>
      have g1 : (ToldF x b1 b2 b3 b4 Lx).tmps[1]?.getD undef = .pointer (some ⟨b1, 0, none⟩) := by kernel_rfl
      have e1 : (ToldF x b1 b2 b3 b4 Lx).eval (.tmp 1) = .pointer (some ⟨b1, 0, none⟩) := by kernel_rfl
      exact i_val rfl (.pointer (some ⟨b1, 5, none⟩)) w' (by rfl) (by go_simp) ⟨by kernel_rfl, hw⟩
    | 14, _ =>
      have h13 := haft 13 (by decide)
      have e36 : (ToldF x b1 b2 b3 b4 Lx).eval (.tmp 36) = .pointer (some ⟨b1, 5, none⟩) := by show (bif Lx 13 then _ else _) = _; rw [h13]; rfl
      have g36 : (ToldF x b1 b2 b3 b4 Lx).tmps[36]?.getD undef = .pointer (some ⟨b1, 5, none⟩) := by show (bif Lx 13 then _ else _) = _; rw [h13]; rfl
      exact i_val rfl (.int .u32 (x.c : Nat)) w' (by rfl) (by have q : w'.cell? ⟨b1, 5, none⟩ = some (.int .u32 (x.c : Nat)) := Kb.cell (i := 0) hw rfl (by rfl); go_simp) ⟨by kernel_rfl, hw⟩
    | 15, _ =>
      have g1 : (ToldF x b1 b2 b3 b4 Lx).tmps[1]?.getD undef = .pointer (some ⟨b1, 0, none⟩) := by kernel_rfl
      have e1 : (ToldF x b1 b2 b3 b4 Lx).eval (.tmp 1) = .pointer (some ⟨b1, 0, none⟩) := by kernel_rfl
      exact i_val rfl (.pointer (some ⟨b1, 7, none⟩)) w' (by rfl) (by go_simp) ⟨by kernel_rfl, hw⟩
    | 16, _ =>
      have h15 := haft 15 (by decide)
      have e38 : (ToldF x b1 b2 b3 b4 Lx).eval (.tmp 38) = .pointer (some ⟨b1, 7, none⟩) := by show (bif Lx 15 then _ else _) = _; rw [h15]; rfl
      have g38 : (ToldF x b1 b2 b3 b4 Lx).tmps[38]?.getD undef = .pointer (some ⟨b1, 7, none⟩) := by show (bif Lx 15 then _ else _) = _; rw [h15]; rfl
      exact i_val rfl (.int .u16 (x.i : Nat)) w' (by rfl) (by have q : w'.cell? ⟨b1, 7, none⟩ = some (.int .u16 (x.i : Nat)) := Kb.cell (i := 0) hw rfl (by rfl); go_simp) ⟨by kernel_rfl, hw⟩
    | 17, _ =>
      have h1 := haft 1 (by decide)
      have e24 : (ToldF x b1 b2 b3 b4 Lx).eval (.tmp 24) = .bool x.on := by show (bif Lx 1 then _ else _) = _; rw [h1]; rfl
      have g24 : (ToldF x b1 b2 b3 b4 Lx).tmps[24]?.getD undef = .bool x.on := by show (bif Lx 1 then _ else _) = _; rw [h1]; rfl
      have h3 := haft 3 (by decide)
      have e26 : (ToldF x b1 b2 b3 b4 Lx).eval (.tmp 26) = .bool x.hd := by show (bif Lx 3 then _ else _) = _; rw [h3]; rfl
      have g26 : (ToldF x b1 b2 b3 b4 Lx).tmps[26]?.getD undef = .bool x.hd := by show (bif Lx 3 then _ else _) = _; rw [h3]; rfl
      have h12 := haft 12 (by decide)
      have e35 : (ToldF x b1 b2 b3 b4 Lx).eval (.tmp 35) = .agg (vcA x.v) := by show (bif Lx 12 then _ else _) = _; rw [h12]; rfl
      have g35 : (ToldF x b1 b2 b3 b4 Lx).tmps[35]?.getD undef = .agg (vcA x.v) := by show (bif Lx 12 then _ else _) = _; rw [h12]; rfl
      have h14 := haft 14 (by decide)
      have e37 : (ToldF x b1 b2 b3 b4 Lx).eval (.tmp 37) = .int .u32 (x.c : Nat) := by show (bif Lx 14 then _ else _) = _; rw [h14]; rfl
      have g37 : (ToldF x b1 b2 b3 b4 Lx).tmps[37]?.getD undef = .int .u32 (x.c : Nat) := by show (bif Lx 14 then _ else _) = _; rw [h14]; rfl
      have h16 := haft 16 (by decide)
      have e39 : (ToldF x b1 b2 b3 b4 Lx).eval (.tmp 39) = .int .u16 (x.i : Nat) := by show (bif Lx 16 then _ else _) = _; rw [h16]; rfl
      have g39 : (ToldF x b1 b2 b3 b4 Lx).tmps[39]?.getD undef = .int .u16 (x.i : Nat) := by show (bif Lx 16 then _ else _) = _; rw [h16]; rfl
      exact i_val rfl (.agg (rpA x)) w' (by rfl) (run_build_of 47 [(0, .tmp 24), (1, .tmp 26), (2, .tmp 35), (3, .tmp 37), (4, .tmp 39)] rfl _ (rpA x) (by simp only [List.map_cons, List.map_nil, e24, e26, e35, e37, e39]; rfl) (by kernel_rfl)) ⟨by kernel_rfl, hw⟩
    | 18, _ =>
      have g4 : (ToldF x b1 b2 b3 b4 Lx).tmps[4]?.getD undef = .pointer (some ⟨b4, 0, none⟩) := by kernel_rfl
      have e4 : (ToldF x b1 b2 b3 b4 Lx).eval (.tmp 4) = .pointer (some ⟨b4, 0, none⟩) := by kernel_rfl
      exact i_val rfl (.agg (rpA x)) w' (by rfl) (kb_all hw 3 rfl 77 _ rfl e4 Try.underlying77 rfl (size77)) ⟨by kernel_rfl, hw⟩
    | 19, _ =>
      have g2 : (ToldF x b1 b2 b3 b4 Lx).tmps[2]?.getD undef = .pointer (some ⟨b2, 0, none⟩) := by kernel_rfl
      have e2 : (ToldF x b1 b2 b3 b4 Lx).eval (.tmp 2) = .pointer (some ⟨b2, 0, none⟩) := by kernel_rfl
      have h17 := haft 17 (by decide)
      have e40 : (ToldF x b1 b2 b3 b4 Lx).eval (.tmp 40) = .agg (rpA x) := by show (bif Lx 17 then _ else _) = _; rw [h17]; rfl
      have g40 : (ToldF x b1 b2 b3 b4 Lx).tmps[40]?.getD undef = .agg (rpA x) := by show (bif Lx 17 then _ else _) = _; rw [h17]; rfl
      exact i_wp rfl (by rfl) (wp_store_row 47 _ _ rfl b2 (rpA x) e2 e40 47 (bif Lx 19 then rpA x else nil8) (Kb.at (i := 1) hw rfl) (size47) (by rw [hL]; rfl) (by kernel_rfl) ⟨by kernel_rfl, cast_blk (Kb.row (i := 1) hw rfl (rpA x)) (by rfl)⟩)
    | 20, _ =>
      have g3 : (ToldF x b1 b2 b3 b4 Lx).tmps[3]?.getD undef = .pointer (some ⟨b3, 0, none⟩) := by kernel_rfl
      have e3 : (ToldF x b1 b2 b3 b4 Lx).eval (.tmp 3) = .pointer (some ⟨b3, 0, none⟩) := by kernel_rfl
      have h18 := haft 18 (by decide)
      have e41 : (ToldF x b1 b2 b3 b4 Lx).eval (.tmp 41) = .agg (rpA x) := by show (bif Lx 18 then _ else _) = _; rw [h18]; rfl
      have g41 : (ToldF x b1 b2 b3 b4 Lx).tmps[41]?.getD undef = .agg (rpA x) := by show (bif Lx 18 then _ else _) = _; rw [h18]; rfl
      exact i_wp rfl (by rfl) (wp_store_row 77 _ _ rfl b3 (rpA x) e3 e41 77 (bif Lx 20 then rpA x else nil8) (Kb.at (i := 2) hw rfl) (size77) (by rw [hL]; rfl) (by kernel_rfl) ⟨by kernel_rfl, cast_blk (Kb.row (i := 2) hw rfl (rpA x)) (by rfl)⟩)
    | k + 21, h =>
      exfalso
      have h2 : k + 21 < 21 := h
      omega
  intro Lx ac w6 hI hall
  obtain ⟨rfl, hw⟩ := hI
  have hfr : ToldF x b1 b2 b3 b4 Lx = { tmps := #[.agg (lqA x), .pointer (some ⟨b1, 0, none⟩), .pointer (some ⟨b2, 0, none⟩), .pointer (some ⟨b3, 0, none⟩), .pointer (some ⟨b4, 0, none⟩), .pointer (some ⟨b1, 0, none⟩), .bool x.on, .pointer (some ⟨b1, 1, none⟩), .bool x.hd, .pointer (some ⟨b1, 2, none⟩), .int .u64 (x.v.r : Nat), .pointer (some ⟨b1, 4, none⟩), .int .u32 (x.v.c : Nat), .pointer (some ⟨b1, 3, none⟩), .int .u64 (x.v.b : Nat), .pointer (some ⟨b1, 6, none⟩), .int .u16 (x.v.p : Nat), .agg (vcA x.v), .pointer (some ⟨b1, 5, none⟩), .int .u32 (x.c : Nat), .pointer (some ⟨b1, 7, none⟩), .int .u16 (x.i : Nat), .agg (rpA x), .pointer (some ⟨b1, 0, none⟩), .bool x.on, .pointer (some ⟨b1, 1, none⟩), .bool x.hd, .pointer (some ⟨b1, 2, none⟩), .int .u64 (x.v.r : Nat), .pointer (some ⟨b1, 4, none⟩), .int .u32 (x.v.c : Nat), .pointer (some ⟨b1, 3, none⟩), .int .u64 (x.v.b : Nat), .pointer (some ⟨b1, 6, none⟩), .int .u16 (x.v.p : Nat), .agg (vcA x.v), .pointer (some ⟨b1, 5, none⟩), .int .u32 (x.c : Nat), .pointer (some ⟨b1, 7, none⟩), .int .u16 (x.i : Nat), .agg (rpA x), .agg (rpA x)], defers := [] } := by unfold ToldF; simp only [hall 0 (by decide), hall 1 (by decide), hall 2 (by decide), hall 3 (by decide), hall 4 (by decide), hall 5 (by decide), hall 6 (by decide), hall 7 (by decide), hall 8 (by decide), hall 9 (by decide), hall 10 (by decide), hall 11 (by decide), hall 12 (by decide), hall 13 (by decide), hall 14 (by decide), hall 15 (by decide), hall 16 (by decide), hall 17 (by decide), hall 18 (by decide), cond_true]
  rw [hfr]
  clear hfr
  have hL19 := hall 19 (by decide)
  have hL20 := hall 20 (by decide)
  simp only [hL19, hL20, cond_true] at hw
  have K6 := Lib.hid (show Kb w [(b1, lqA x, 81), (b2, rpA x, 47), (b3, rpA x, 77), (b4, rpA x, 77)] w6 from hw)
  clear hw hall hL19 hL20
  go_wp2_with fail
  refine bodyPost_ret (v := .tuple #[.agg (rpA x), .agg (rpA x)]) (results_rows Try.results20 _ _ b2 b3 47 77 (rpA x) (rpA x) rfl rfl (K6.out.at (i := 1) rfl) (K6.out.at (i := 2) rfl) Try.underlying47 rfl size47 Try.underlying77 rfl size77) rfl ?_
  exact ⟨rfl, K6.out.below⟩
/-- The slots, while the region runs. -/
def WayF (self : Nat) (x : Rp) (k : Int) (b1 b2 : Nat) (L : Nat → Bool) : Act := { tmps := #[.agg (#[.bool true, .bool true, .int .u64 (x.v.r : Nat), .int .u32 (x.v.c : Nat), .int .u64 (x.v.b : Nat), .int .u16 (x.v.p : Nat), .int .u32 (x.c : Nat), .int .u16 (x.i : Nat)]), .int .u64 (self : Nat), .int .i64 k, .pointer (some ⟨b1, 0, none⟩), undef, undef, .pointer (some ⟨b2, 0, none⟩), .pointer (some ⟨b1, 0, none⟩), .bool true, .bool false, .bool false, .pointer (some ⟨b1, 1, none⟩), .bool true, .bool false, .bool false, .bool false, .pointer (some ⟨b1, 2, none⟩), .pointer (some ⟨b1, 4, none⟩), .int .u64 (x.v.b : Nat), .int .u64 (self : Nat), .bool false, .bool false, undef, bif L 0 then .pointer (some ⟨b1, 2, none⟩) else undef, bif L 1 then .agg (#[.int .u64 (x.v.r : Nat), .int .u32 (x.v.c : Nat), .int .u64 (x.v.b : Nat), .int .u16 (x.v.p : Nat)]) else undef, bif L 2 then .pointer (some ⟨b1, 6, none⟩) else undef, bif L 3 then .int .u32 (x.c : Nat) else undef, bif L 4 then .agg (vcA (plusV x.v x.c)) else undef, bif L 5 then .pointer (some ⟨b1, 7, none⟩) else undef, bif L 6 then .int .u16 (x.i : Nat) else undef, bif L 7 then .int .i64 k else undef, bif L 8 then .agg (wyA (plusV x.v x.c) x.i k) else undef], defers := [] }
set_option maxRecDepth 100000 in
set_option maxHeartbeats 8000000 in
theorem way_any (self : Nat) (x : Rp) (k : Int) (hx : x.ok) (w : World) : Calls Try.prog 30 #[.agg (rpA x), .int .u64 (self : Nat), .int .i64 k] w fun e w' => e = .returned (.agg (wayA self x k)) ∧ Below w.heap.size w w' := by
  have HX := Lib.hid hx
  clear hx
  obtain ⟨o, ho⟩ : ∃ o, o = x.on := ⟨_, rfl⟩
  obtain ⟨h, hh⟩ : ∃ o, o = x.hd := ⟨_, rfl⟩
  have HO := Lib.hid ho
  have HH := Lib.hid hh
  clear ho hh
  cases o
  case false =>
    have EA : rpA x = #[.bool false, .bool h, .int .u64 (x.v.r : Nat), .int .u32 (x.v.c : Nat), .int .u64 (x.v.b : Nat), .int .u16 (x.v.p : Nat), .int .u32 (x.c : Nat), .int .u16 (x.i : Nat)] := by unfold rpA; rw [← HO.out, ← HH.out]
    have HEA := Lib.hid EA
    have HW : wayA self x k = nilW := by unfold wayA wayB; rw [← HO.out, ← HH.out]; simp
    rw [HW, EA]
    clear HW EA
    have K := Lib.hid (Kb.nil w)
    go_enter Try.func30, Try.ntmps30
    go_upto_region 0 with fail
    refine wp_region_lit ?_
    refine kb_box K.out 47 (.tmp 0) (#[.bool false, .bool h, .int .u64 (x.v.r : Nat), .int .u32 (x.v.c : Nat), .int .u64 (x.v.b : Nat), .int .u16 (x.v.p : Nat), .int .u32 (x.c : Nat), .int .u16 (x.i : Nat)]) rfl rfl (by rfl) ?_
    intro b1 w1 hb1 hk
    have K1 := Lib.hid (show Kb w [(b1, #[.bool false, .bool h, .int .u64 (x.v.r : Nat), .int .u32 (x.v.c : Nat), .int .u64 (x.v.b : Nat), .int .u16 (x.v.p : Nat), .int .u32 (x.c : Nat), .int .u16 (x.i : Nat)], 47)] w1 from hk)
    clear hk hb1
    (try simp only [Act.put, List.getElem_toArray, List.getElem_cons_succ, List.getElem_cons_zero, List.setIfInBounds_toArray, List.set_cons_zero, List.set_cons_succ])
    refine kb_alloc K1.out 83 (nilW) rfl z83 (by rfl) ?_
    intro b2 w2 hb2 hk
    have K2 := Lib.hid (show Kb w [(b1, #[.bool false, .bool h, .int .u64 (x.v.r : Nat), .int .u32 (x.v.c : Nat), .int .u64 (x.v.b : Nat), .int .u16 (x.v.p : Nat), .int .u32 (x.c : Nat), .int .u16 (x.i : Nat)], 47), (b2, nilW, 83)] w2 from hk)
    clear hk hb2
    (try simp only [Act.put, List.getElem_toArray, List.getElem_cons_succ, List.getElem_cons_zero, List.setIfInBounds_toArray, List.set_cons_zero, List.set_cons_succ])
    refine wpList_nil ?_
    go_upto_region 1 with fail
    refine wp_region_lit ?_
    refine wpList_val (.pointer (some ⟨b1, 0, none⟩)) (by rfl) (by go_simp) ?_
    (try simp only [Act.put, List.getElem_toArray, List.getElem_cons_succ, List.getElem_cons_zero, List.setIfInBounds_toArray, List.set_cons_zero, List.set_cons_succ])
    refine wpList_val (.bool false) (by rfl) (by have q : w2.cell? ⟨b1, 0, none⟩ = some (.bool false) := K2.out.cell (i := 0) rfl (by rfl); go_simp) ?_
    (try simp only [Act.put, List.getElem_toArray, List.getElem_cons_succ, List.getElem_cons_zero, List.setIfInBounds_toArray, List.set_cons_zero, List.set_cons_succ])
    refine wpList_val (.bool true) (by rfl) (by go_simp) ?_
    (try simp only [Act.put, List.getElem_toArray, List.getElem_cons_succ, List.getElem_cons_zero, List.setIfInBounds_toArray, List.set_cons_zero, List.set_cons_succ])
    refine wpList_val (.bool true) (by rfl) (by go_simp) ?_
    (try simp only [Act.put, List.getElem_toArray, List.getElem_cons_succ, List.getElem_cons_zero, List.setIfInBounds_toArray, List.set_cons_zero, List.set_cons_succ])
    refine wpList_skip (by kernel_rfl) ?_
    (try simp only [Act.put, List.getElem_toArray, List.getElem_cons_succ, List.getElem_cons_zero, List.setIfInBounds_toArray, List.set_cons_zero, List.set_cons_succ])
    refine wpList_skip (by kernel_rfl) ?_
    (try simp only [Act.put, List.getElem_toArray, List.getElem_cons_succ, List.getElem_cons_zero, List.setIfInBounds_toArray, List.set_cons_zero, List.set_cons_succ])
    refine wpList_skip (by kernel_rfl) ?_
    (try simp only [Act.put, List.getElem_toArray, List.getElem_cons_succ, List.getElem_cons_zero, List.setIfInBounds_toArray, List.set_cons_zero, List.set_cons_succ])
    refine wpList_val (.bool true) (by rfl) (run_pick_yes (.tmp 10) (.const (.bool true)) (.tmp 13) _ rfl rfl rfl) ?_
    (try simp only [Act.put, List.getElem_toArray, List.getElem_cons_succ, List.getElem_cons_zero, List.setIfInBounds_toArray, List.set_cons_zero, List.set_cons_succ])
    refine wpList_val (.bool true) (by rfl) (by go_simp) ?_
    (try simp only [Act.put, List.getElem_toArray, List.getElem_cons_succ, List.getElem_cons_zero, List.setIfInBounds_toArray, List.set_cons_zero, List.set_cons_succ])
    refine wpList_skip (by kernel_rfl) ?_
    (try simp only [Act.put, List.getElem_toArray, List.getElem_cons_succ, List.getElem_cons_zero, List.setIfInBounds_toArray, List.set_cons_zero, List.set_cons_succ])
    refine wpList_skip (by kernel_rfl) ?_
    (try simp only [Act.put, List.getElem_toArray, List.getElem_cons_succ, List.getElem_cons_zero, List.setIfInBounds_toArray, List.set_cons_zero, List.set_cons_succ])
    refine wpList_skip (by kernel_rfl) ?_
    (try simp only [Act.put, List.getElem_toArray, List.getElem_cons_succ, List.getElem_cons_zero, List.setIfInBounds_toArray, List.set_cons_zero, List.set_cons_succ])
    refine wpList_skip (by kernel_rfl) ?_
    (try simp only [Act.put, List.getElem_toArray, List.getElem_cons_succ, List.getElem_cons_zero, List.setIfInBounds_toArray, List.set_cons_zero, List.set_cons_succ])
    refine wpList_skip (by kernel_rfl) ?_
    (try simp only [Act.put, List.getElem_toArray, List.getElem_cons_succ, List.getElem_cons_zero, List.setIfInBounds_toArray, List.set_cons_zero, List.set_cons_succ])
    refine wpList_val (.bool true) (by rfl) (run_pick_yes (.tmp 15) (.const (.bool true)) (.tmp 20) _ rfl rfl rfl) ?_
    (try simp only [Act.put, List.getElem_toArray, List.getElem_cons_succ, List.getElem_cons_zero, List.setIfInBounds_toArray, List.set_cons_zero, List.set_cons_succ])
    refine wpList_nil ?_
    go_upto_region 2 with fail
    refine wp_region_lit ?_
    refine wpList_val (.agg (nilW)) (by rfl) (run_build_of 83 [] rfl [] nilW rfl (by kernel_rfl)) ?_
    (try simp only [Act.put, List.getElem_toArray, List.getElem_cons_succ, List.getElem_cons_zero, List.setIfInBounds_toArray, List.set_cons_zero, List.set_cons_succ])
    refine kb_row K2.out 1 rfl 83 _ _ (nilW) rfl rfl rfl rfl (size83) (by rfl) (by kernel_rfl) ?_
    intro w3 hk
    have K3 := Lib.hid (show Kb w [(b1, #[.bool false, .bool h, .int .u64 (x.v.r : Nat), .int .u32 (x.v.c : Nat), .int .u64 (x.v.b : Nat), .int .u16 (x.v.p : Nat), .int .u32 (x.c : Nat), .int .u16 (x.i : Nat)], 47), (b2, nilW, 83)] w3 from hk)
    clear hk
    (try simp only [Act.put, List.getElem_toArray, List.getElem_cons_succ, List.getElem_cons_zero, List.setIfInBounds_toArray, List.set_cons_zero, List.set_cons_succ])
    refine wpList_nil ?_
    go_wp2_with fail
    refine bodyPost_ret (v := .agg (nilW)) (results_cell_row Try.results30 _ _ b2 83 (nilW) (0, 0) _ rfl (K3.out.at (i := 1) rfl) Try.underlying83 rfl size83) rfl ?_
    exact ⟨rfl, K3.out.below⟩
  case true =>
    cases h
    case false =>
      have EA : rpA x = #[.bool true, .bool false, .int .u64 (x.v.r : Nat), .int .u32 (x.v.c : Nat), .int .u64 (x.v.b : Nat), .int .u16 (x.v.p : Nat), .int .u32 (x.c : Nat), .int .u16 (x.i : Nat)] := by unfold rpA; rw [← HO.out, ← HH.out]
      have HEA := Lib.hid EA
      have HW : wayA self x k = nilW := by unfold wayA wayB; rw [← HO.out, ← HH.out]; simp
      rw [HW, EA]
      clear HW EA
      have K := Lib.hid (Kb.nil w)
      go_enter Try.func30, Try.ntmps30
      go_upto_region 0 with fail
      refine wp_region_lit ?_
      refine kb_box K.out 47 (.tmp 0) (#[.bool true, .bool false, .int .u64 (x.v.r : Nat), .int .u32 (x.v.c : Nat), .int .u64 (x.v.b : Nat), .int .u16 (x.v.p : Nat), .int .u32 (x.c : Nat), .int .u16 (x.i : Nat)]) rfl rfl (by rfl) ?_
      intro b1 w1 hb1 hk
      have K1 := Lib.hid (show Kb w [(b1, #[.bool true, .bool false, .int .u64 (x.v.r : Nat), .int .u32 (x.v.c : Nat), .int .u64 (x.v.b : Nat), .int .u16 (x.v.p : Nat), .int .u32 (x.c : Nat), .int .u16 (x.i : Nat)], 47)] w1 from hk)
      clear hk hb1
      (try simp only [Act.put, List.getElem_toArray, List.getElem_cons_succ, List.getElem_cons_zero, List.setIfInBounds_toArray, List.set_cons_zero, List.set_cons_succ])
      refine kb_alloc K1.out 83 (nilW) rfl z83 (by rfl) ?_
      intro b2 w2 hb2 hk
      have K2 := Lib.hid (show Kb w [(b1, #[.bool true, .bool false, .int .u64 (x.v.r : Nat), .int .u32 (x.v.c : Nat), .int .u64 (x.v.b : Nat), .int .u16 (x.v.p : Nat), .int .u32 (x.c : Nat), .int .u16 (x.i : Nat)], 47), (b2, nilW, 83)] w2 from hk)
      clear hk hb2
      (try simp only [Act.put, List.getElem_toArray, List.getElem_cons_succ, List.getElem_cons_zero, List.setIfInBounds_toArray, List.set_cons_zero, List.set_cons_succ])
      refine wpList_nil ?_
      go_upto_region 1 with fail
      refine wp_region_lit ?_
      refine wpList_val (.pointer (some ⟨b1, 0, none⟩)) (by rfl) (by go_simp) ?_
      (try simp only [Act.put, List.getElem_toArray, List.getElem_cons_succ, List.getElem_cons_zero, List.setIfInBounds_toArray, List.set_cons_zero, List.set_cons_succ])
      refine wpList_val (.bool true) (by rfl) (by have q : w2.cell? ⟨b1, 0, none⟩ = some (.bool true) := K2.out.cell (i := 0) rfl (by rfl); go_simp) ?_
      (try simp only [Act.put, List.getElem_toArray, List.getElem_cons_succ, List.getElem_cons_zero, List.setIfInBounds_toArray, List.set_cons_zero, List.set_cons_succ])
      refine wpList_val (.bool false) (by rfl) (by go_simp) ?_
      (try simp only [Act.put, List.getElem_toArray, List.getElem_cons_succ, List.getElem_cons_zero, List.setIfInBounds_toArray, List.set_cons_zero, List.set_cons_succ])
      refine wpList_val (.bool false) (by rfl) (by go_simp) ?_
      (try simp only [Act.put, List.getElem_toArray, List.getElem_cons_succ, List.getElem_cons_zero, List.setIfInBounds_toArray, List.set_cons_zero, List.set_cons_succ])
      refine wpList_val (.pointer (some ⟨b1, 1, none⟩)) (by rfl) (by go_simp) ?_
      (try simp only [Act.put, List.getElem_toArray, List.getElem_cons_succ, List.getElem_cons_zero, List.setIfInBounds_toArray, List.set_cons_zero, List.set_cons_succ])
      refine wpList_val (.bool false) (by rfl) (by have q : w2.cell? ⟨b1, 1, none⟩ = some (.bool false) := K2.out.cell (i := 0) rfl (by rfl); go_simp) ?_
      (try simp only [Act.put, List.getElem_toArray, List.getElem_cons_succ, List.getElem_cons_zero, List.setIfInBounds_toArray, List.set_cons_zero, List.set_cons_succ])
      refine wpList_val (.bool true) (by rfl) (by go_simp) ?_
      (try simp only [Act.put, List.getElem_toArray, List.getElem_cons_succ, List.getElem_cons_zero, List.setIfInBounds_toArray, List.set_cons_zero, List.set_cons_succ])
      refine wpList_val (.bool true) (by rfl) (run_pick_no (.tmp 10) (.const (.bool true)) (.tmp 13) _ rfl rfl rfl) ?_
      (try simp only [Act.put, List.getElem_toArray, List.getElem_cons_succ, List.getElem_cons_zero, List.setIfInBounds_toArray, List.set_cons_zero, List.set_cons_succ])
      refine wpList_val (.bool true) (by rfl) (by go_simp) ?_
      (try simp only [Act.put, List.getElem_toArray, List.getElem_cons_succ, List.getElem_cons_zero, List.setIfInBounds_toArray, List.set_cons_zero, List.set_cons_succ])
      refine wpList_skip (by kernel_rfl) ?_
      (try simp only [Act.put, List.getElem_toArray, List.getElem_cons_succ, List.getElem_cons_zero, List.setIfInBounds_toArray, List.set_cons_zero, List.set_cons_succ])
      refine wpList_skip (by kernel_rfl) ?_
      (try simp only [Act.put, List.getElem_toArray, List.getElem_cons_succ, List.getElem_cons_zero, List.setIfInBounds_toArray, List.set_cons_zero, List.set_cons_succ])
      refine wpList_skip (by kernel_rfl) ?_
      (try simp only [Act.put, List.getElem_toArray, List.getElem_cons_succ, List.getElem_cons_zero, List.setIfInBounds_toArray, List.set_cons_zero, List.set_cons_succ])
      refine wpList_skip (by kernel_rfl) ?_
      (try simp only [Act.put, List.getElem_toArray, List.getElem_cons_succ, List.getElem_cons_zero, List.setIfInBounds_toArray, List.set_cons_zero, List.set_cons_succ])
      refine wpList_skip (by kernel_rfl) ?_
      (try simp only [Act.put, List.getElem_toArray, List.getElem_cons_succ, List.getElem_cons_zero, List.setIfInBounds_toArray, List.set_cons_zero, List.set_cons_succ])
      refine wpList_val (.bool true) (by rfl) (run_pick_yes (.tmp 15) (.const (.bool true)) (.tmp 20) _ rfl rfl rfl) ?_
      (try simp only [Act.put, List.getElem_toArray, List.getElem_cons_succ, List.getElem_cons_zero, List.setIfInBounds_toArray, List.set_cons_zero, List.set_cons_succ])
      refine wpList_nil ?_
      go_upto_region 2 with fail
      refine wp_region_lit ?_
      refine wpList_val (.agg (nilW)) (by rfl) (run_build_of 83 [] rfl [] nilW rfl (by kernel_rfl)) ?_
      (try simp only [Act.put, List.getElem_toArray, List.getElem_cons_succ, List.getElem_cons_zero, List.setIfInBounds_toArray, List.set_cons_zero, List.set_cons_succ])
      refine kb_row K2.out 1 rfl 83 _ _ (nilW) rfl rfl rfl rfl (size83) (by rfl) (by kernel_rfl) ?_
      intro w3 hk
      have K3 := Lib.hid (show Kb w [(b1, #[.bool true, .bool false, .int .u64 (x.v.r : Nat), .int .u32 (x.v.c : Nat), .int .u64 (x.v.b : Nat), .int .u16 (x.v.p : Nat), .int .u32 (x.c : Nat), .int .u16 (x.i : Nat)], 47), (b2, nilW, 83)] w3 from hk)
      clear hk
      (try simp only [Act.put, List.getElem_toArray, List.getElem_cons_succ, List.getElem_cons_zero, List.setIfInBounds_toArray, List.set_cons_zero, List.set_cons_succ])
      refine wpList_nil ?_
      go_wp2_with fail
      refine bodyPost_ret (v := .agg (nilW)) (results_cell_row Try.results30 _ _ b2 83 (nilW) (0, 0) _ rfl (K3.out.at (i := 1) rfl) Try.underlying83 rfl size83) rfl ?_
      exact ⟨rfl, K3.out.below⟩
    case true =>
      by_cases hb : x.v.b = self
      case pos =>
        have hbi : (x.v.b : Int) = (self : Int) := by omega
        have EA : rpA x = #[.bool true, .bool true, .int .u64 (x.v.r : Nat), .int .u32 (x.v.c : Nat), .int .u64 (x.v.b : Nat), .int .u16 (x.v.p : Nat), .int .u32 (x.c : Nat), .int .u16 (x.i : Nat)] := by unfold rpA; rw [← HO.out, ← HH.out]
        have HEA := Lib.hid EA
        have HW : wayA self x k = nilW := by unfold wayA wayB; rw [← HO.out, ← HH.out]; simp [hb]
        rw [HW, EA]
        clear HW EA
        have K := Lib.hid (Kb.nil w)
        go_enter Try.func30, Try.ntmps30
        go_upto_region 0 with fail
        refine wp_region_lit ?_
        refine kb_box K.out 47 (.tmp 0) (#[.bool true, .bool true, .int .u64 (x.v.r : Nat), .int .u32 (x.v.c : Nat), .int .u64 (x.v.b : Nat), .int .u16 (x.v.p : Nat), .int .u32 (x.c : Nat), .int .u16 (x.i : Nat)]) rfl rfl (by rfl) ?_
        intro b1 w1 hb1 hk
        have K1 := Lib.hid (show Kb w [(b1, #[.bool true, .bool true, .int .u64 (x.v.r : Nat), .int .u32 (x.v.c : Nat), .int .u64 (x.v.b : Nat), .int .u16 (x.v.p : Nat), .int .u32 (x.c : Nat), .int .u16 (x.i : Nat)], 47)] w1 from hk)
        clear hk hb1
        (try simp only [Act.put, List.getElem_toArray, List.getElem_cons_succ, List.getElem_cons_zero, List.setIfInBounds_toArray, List.set_cons_zero, List.set_cons_succ])
        refine kb_alloc K1.out 83 (nilW) rfl z83 (by rfl) ?_
        intro b2 w2 hb2 hk
        have K2 := Lib.hid (show Kb w [(b1, #[.bool true, .bool true, .int .u64 (x.v.r : Nat), .int .u32 (x.v.c : Nat), .int .u64 (x.v.b : Nat), .int .u16 (x.v.p : Nat), .int .u32 (x.c : Nat), .int .u16 (x.i : Nat)], 47), (b2, nilW, 83)] w2 from hk)
        clear hk hb2
        (try simp only [Act.put, List.getElem_toArray, List.getElem_cons_succ, List.getElem_cons_zero, List.setIfInBounds_toArray, List.set_cons_zero, List.set_cons_succ])
        refine wpList_nil ?_
        go_upto_region 1 with fail
        refine wp_region_lit ?_
        refine wpList_val (.pointer (some ⟨b1, 0, none⟩)) (by rfl) (by go_simp) ?_
        (try simp only [Act.put, List.getElem_toArray, List.getElem_cons_succ, List.getElem_cons_zero, List.setIfInBounds_toArray, List.set_cons_zero, List.set_cons_succ])
        refine wpList_val (.bool true) (by rfl) (by have q : w2.cell? ⟨b1, 0, none⟩ = some (.bool true) := K2.out.cell (i := 0) rfl (by rfl); go_simp) ?_
        (try simp only [Act.put, List.getElem_toArray, List.getElem_cons_succ, List.getElem_cons_zero, List.setIfInBounds_toArray, List.set_cons_zero, List.set_cons_succ])
        refine wpList_val (.bool false) (by rfl) (by go_simp) ?_
        (try simp only [Act.put, List.getElem_toArray, List.getElem_cons_succ, List.getElem_cons_zero, List.setIfInBounds_toArray, List.set_cons_zero, List.set_cons_succ])
        refine wpList_val (.bool false) (by rfl) (by go_simp) ?_
        (try simp only [Act.put, List.getElem_toArray, List.getElem_cons_succ, List.getElem_cons_zero, List.setIfInBounds_toArray, List.set_cons_zero, List.set_cons_succ])
        refine wpList_val (.pointer (some ⟨b1, 1, none⟩)) (by rfl) (by go_simp) ?_
        (try simp only [Act.put, List.getElem_toArray, List.getElem_cons_succ, List.getElem_cons_zero, List.setIfInBounds_toArray, List.set_cons_zero, List.set_cons_succ])
        refine wpList_val (.bool true) (by rfl) (by have q : w2.cell? ⟨b1, 1, none⟩ = some (.bool true) := K2.out.cell (i := 0) rfl (by rfl); go_simp) ?_
        (try simp only [Act.put, List.getElem_toArray, List.getElem_cons_succ, List.getElem_cons_zero, List.setIfInBounds_toArray, List.set_cons_zero, List.set_cons_succ])
        refine wpList_val (.bool false) (by rfl) (by go_simp) ?_
        (try simp only [Act.put, List.getElem_toArray, List.getElem_cons_succ, List.getElem_cons_zero, List.setIfInBounds_toArray, List.set_cons_zero, List.set_cons_succ])
        refine wpList_val (.bool false) (by rfl) (run_pick_no (.tmp 10) (.const (.bool true)) (.tmp 13) _ rfl rfl rfl) ?_
        (try simp only [Act.put, List.getElem_toArray, List.getElem_cons_succ, List.getElem_cons_zero, List.setIfInBounds_toArray, List.set_cons_zero, List.set_cons_succ])
        refine wpList_val (.bool false) (by rfl) (by go_simp) ?_
        (try simp only [Act.put, List.getElem_toArray, List.getElem_cons_succ, List.getElem_cons_zero, List.setIfInBounds_toArray, List.set_cons_zero, List.set_cons_succ])
        refine wpList_val (.pointer (some ⟨b1, 2, none⟩)) (by rfl) (by go_simp) ?_
        (try simp only [Act.put, List.getElem_toArray, List.getElem_cons_succ, List.getElem_cons_zero, List.setIfInBounds_toArray, List.set_cons_zero, List.set_cons_succ])
        refine wpList_val (.pointer (some ⟨b1, 4, none⟩)) (by rfl) (by go_simp) ?_
        (try simp only [Act.put, List.getElem_toArray, List.getElem_cons_succ, List.getElem_cons_zero, List.setIfInBounds_toArray, List.set_cons_zero, List.set_cons_succ])
        refine wpList_val (.int .u64 (x.v.b : Nat)) (by rfl) (by have q : w2.cell? ⟨b1, 4, none⟩ = some (.int .u64 (x.v.b : Nat)) := K2.out.cell (i := 0) rfl (by rfl); go_simp) ?_
        (try simp only [Act.put, List.getElem_toArray, List.getElem_cons_succ, List.getElem_cons_zero, List.setIfInBounds_toArray, List.set_cons_zero, List.set_cons_succ])
        refine wpList_val (.int .u64 (self : Nat)) (by rfl) (by go_simp) ?_
        (try simp only [Act.put, List.getElem_toArray, List.getElem_cons_succ, List.getElem_cons_zero, List.setIfInBounds_toArray, List.set_cons_zero, List.set_cons_succ])
        refine wpList_val (.bool true) (by rfl) (by have q := hbi; go_simp) ?_
        (try simp only [Act.put, List.getElem_toArray, List.getElem_cons_succ, List.getElem_cons_zero, List.setIfInBounds_toArray, List.set_cons_zero, List.set_cons_succ])
        refine wpList_val (.bool true) (by rfl) (run_pick_no (.tmp 15) (.const (.bool true)) (.tmp 20) _ rfl rfl rfl) ?_
        (try simp only [Act.put, List.getElem_toArray, List.getElem_cons_succ, List.getElem_cons_zero, List.setIfInBounds_toArray, List.set_cons_zero, List.set_cons_succ])
        refine wpList_nil ?_
        go_upto_region 2 with fail
        refine wp_region_lit ?_
        refine wpList_val (.agg (nilW)) (by rfl) (run_build_of 83 [] rfl [] nilW rfl (by kernel_rfl)) ?_
        (try simp only [Act.put, List.getElem_toArray, List.getElem_cons_succ, List.getElem_cons_zero, List.setIfInBounds_toArray, List.set_cons_zero, List.set_cons_succ])
        refine kb_row K2.out 1 rfl 83 _ _ (nilW) rfl rfl rfl rfl (size83) (by rfl) (by kernel_rfl) ?_
        intro w3 hk
        have K3 := Lib.hid (show Kb w [(b1, #[.bool true, .bool true, .int .u64 (x.v.r : Nat), .int .u32 (x.v.c : Nat), .int .u64 (x.v.b : Nat), .int .u16 (x.v.p : Nat), .int .u32 (x.c : Nat), .int .u16 (x.i : Nat)], 47), (b2, nilW, 83)] w3 from hk)
        clear hk
        (try simp only [Act.put, List.getElem_toArray, List.getElem_cons_succ, List.getElem_cons_zero, List.setIfInBounds_toArray, List.set_cons_zero, List.set_cons_succ])
        refine wpList_nil ?_
        go_wp2_with fail
        refine bodyPost_ret (v := .agg (nilW)) (results_cell_row Try.results30 _ _ b2 83 (nilW) (0, 0) _ rfl (K3.out.at (i := 1) rfl) Try.underlying83 rfl size83) rfl ?_
        exact ⟨rfl, K3.out.below⟩
      case neg =>
        have hbi : ¬ (x.v.b : Int) = (self : Int) := by omega
        have EA : rpA x = #[.bool true, .bool true, .int .u64 (x.v.r : Nat), .int .u32 (x.v.c : Nat), .int .u64 (x.v.b : Nat), .int .u16 (x.v.p : Nat), .int .u32 (x.c : Nat), .int .u16 (x.i : Nat)] := by unfold rpA; rw [← HO.out, ← HH.out]
        have HEA := Lib.hid EA
        have HW : wayA self x k = wyA (plusV x.v x.c) x.i k := by unfold wayA wayB; rw [← HO.out, ← HH.out]; simp [hb]
        rw [HW, EA]
        clear HW EA
        have K := Lib.hid (Kb.nil w)
        go_enter Try.func30, Try.ntmps30
        go_upto_region 0 with fail
        refine wp_region_lit ?_
        refine kb_box K.out 47 (.tmp 0) (#[.bool true, .bool true, .int .u64 (x.v.r : Nat), .int .u32 (x.v.c : Nat), .int .u64 (x.v.b : Nat), .int .u16 (x.v.p : Nat), .int .u32 (x.c : Nat), .int .u16 (x.i : Nat)]) rfl rfl (by rfl) ?_
        intro b1 w1 hb1 hk
        have K1 := Lib.hid (show Kb w [(b1, #[.bool true, .bool true, .int .u64 (x.v.r : Nat), .int .u32 (x.v.c : Nat), .int .u64 (x.v.b : Nat), .int .u16 (x.v.p : Nat), .int .u32 (x.c : Nat), .int .u16 (x.i : Nat)], 47)] w1 from hk)
        clear hk hb1
        (try simp only [Act.put, List.getElem_toArray, List.getElem_cons_succ, List.getElem_cons_zero, List.setIfInBounds_toArray, List.set_cons_zero, List.set_cons_succ])
        refine kb_alloc K1.out 83 (nilW) rfl z83 (by rfl) ?_
        intro b2 w2 hb2 hk
        have K2 := Lib.hid (show Kb w [(b1, #[.bool true, .bool true, .int .u64 (x.v.r : Nat), .int .u32 (x.v.c : Nat), .int .u64 (x.v.b : Nat), .int .u16 (x.v.p : Nat), .int .u32 (x.c : Nat), .int .u16 (x.i : Nat)], 47), (b2, nilW, 83)] w2 from hk)
        clear hk hb2
        (try simp only [Act.put, List.getElem_toArray, List.getElem_cons_succ, List.getElem_cons_zero, List.setIfInBounds_toArray, List.set_cons_zero, List.set_cons_succ])
        refine wpList_nil ?_
        go_upto_region 1 with fail
        refine wp_region_lit ?_
        refine wpList_val (.pointer (some ⟨b1, 0, none⟩)) (by rfl) (by go_simp) ?_
        (try simp only [Act.put, List.getElem_toArray, List.getElem_cons_succ, List.getElem_cons_zero, List.setIfInBounds_toArray, List.set_cons_zero, List.set_cons_succ])
        refine wpList_val (.bool true) (by rfl) (by have q : w2.cell? ⟨b1, 0, none⟩ = some (.bool true) := K2.out.cell (i := 0) rfl (by rfl); go_simp) ?_
        (try simp only [Act.put, List.getElem_toArray, List.getElem_cons_succ, List.getElem_cons_zero, List.setIfInBounds_toArray, List.set_cons_zero, List.set_cons_succ])
        refine wpList_val (.bool false) (by rfl) (by go_simp) ?_
        (try simp only [Act.put, List.getElem_toArray, List.getElem_cons_succ, List.getElem_cons_zero, List.setIfInBounds_toArray, List.set_cons_zero, List.set_cons_succ])
        refine wpList_val (.bool false) (by rfl) (by go_simp) ?_
        (try simp only [Act.put, List.getElem_toArray, List.getElem_cons_succ, List.getElem_cons_zero, List.setIfInBounds_toArray, List.set_cons_zero, List.set_cons_succ])
        refine wpList_val (.pointer (some ⟨b1, 1, none⟩)) (by rfl) (by go_simp) ?_
        (try simp only [Act.put, List.getElem_toArray, List.getElem_cons_succ, List.getElem_cons_zero, List.setIfInBounds_toArray, List.set_cons_zero, List.set_cons_succ])
        refine wpList_val (.bool true) (by rfl) (by have q : w2.cell? ⟨b1, 1, none⟩ = some (.bool true) := K2.out.cell (i := 0) rfl (by rfl); go_simp) ?_
        (try simp only [Act.put, List.getElem_toArray, List.getElem_cons_succ, List.getElem_cons_zero, List.setIfInBounds_toArray, List.set_cons_zero, List.set_cons_succ])
        refine wpList_val (.bool false) (by rfl) (by go_simp) ?_
        (try simp only [Act.put, List.getElem_toArray, List.getElem_cons_succ, List.getElem_cons_zero, List.setIfInBounds_toArray, List.set_cons_zero, List.set_cons_succ])
        refine wpList_val (.bool false) (by rfl) (run_pick_no (.tmp 10) (.const (.bool true)) (.tmp 13) _ rfl rfl rfl) ?_
        (try simp only [Act.put, List.getElem_toArray, List.getElem_cons_succ, List.getElem_cons_zero, List.setIfInBounds_toArray, List.set_cons_zero, List.set_cons_succ])
        refine wpList_val (.bool false) (by rfl) (by go_simp) ?_
        (try simp only [Act.put, List.getElem_toArray, List.getElem_cons_succ, List.getElem_cons_zero, List.setIfInBounds_toArray, List.set_cons_zero, List.set_cons_succ])
        refine wpList_val (.pointer (some ⟨b1, 2, none⟩)) (by rfl) (by go_simp) ?_
        (try simp only [Act.put, List.getElem_toArray, List.getElem_cons_succ, List.getElem_cons_zero, List.setIfInBounds_toArray, List.set_cons_zero, List.set_cons_succ])
        refine wpList_val (.pointer (some ⟨b1, 4, none⟩)) (by rfl) (by go_simp) ?_
        (try simp only [Act.put, List.getElem_toArray, List.getElem_cons_succ, List.getElem_cons_zero, List.setIfInBounds_toArray, List.set_cons_zero, List.set_cons_succ])
        refine wpList_val (.int .u64 (x.v.b : Nat)) (by rfl) (by have q : w2.cell? ⟨b1, 4, none⟩ = some (.int .u64 (x.v.b : Nat)) := K2.out.cell (i := 0) rfl (by rfl); go_simp) ?_
        (try simp only [Act.put, List.getElem_toArray, List.getElem_cons_succ, List.getElem_cons_zero, List.setIfInBounds_toArray, List.set_cons_zero, List.set_cons_succ])
        refine wpList_val (.int .u64 (self : Nat)) (by rfl) (by go_simp) ?_
        (try simp only [Act.put, List.getElem_toArray, List.getElem_cons_succ, List.getElem_cons_zero, List.setIfInBounds_toArray, List.set_cons_zero, List.set_cons_succ])
        refine wpList_val (.bool false) (by rfl) (by have q := hbi; go_simp) ?_
        (try simp only [Act.put, List.getElem_toArray, List.getElem_cons_succ, List.getElem_cons_zero, List.setIfInBounds_toArray, List.set_cons_zero, List.set_cons_succ])
        refine wpList_val (.bool false) (by rfl) (run_pick_no (.tmp 15) (.const (.bool true)) (.tmp 20) _ rfl rfl rfl) ?_
        (try simp only [Act.put, List.getElem_toArray, List.getElem_cons_succ, List.getElem_cons_zero, List.setIfInBounds_toArray, List.set_cons_zero, List.set_cons_succ])
        refine wpList_nil ?_
        go_upto_region 3 with fail
        clear hb hbi
        refine wp_region_inv_dc (I := fun L ac w' => ac = WayF self x k b1 b2 L ∧ Kb w [(b1, #[.bool true, .bool true, .int .u64 (x.v.r : Nat), .int .u32 (x.v.c : Nat), .int .u64 (x.v.b : Nat), .int .u16 (x.v.p : Nat), .int .u32 (x.c : Nat), .int .u16 (x.i : Nat)], 47), (b2, bif L 9 then wyA (plusV x.v x.c) x.i k else nilW, 83)] w') (by kernel_rfl) (by kernel_rfl) ⟨by kernel_rfl, K2.out.drew⟩ ?_ ?_
        · intro i hi Lx ac w' hI hL haft hdc
          obtain ⟨rfl, hw⟩ := hI
          match i, hi with
          | 0, _ =>
            have g3 : (WayF self x k b1 b2 Lx).tmps[3]?.getD undef = .pointer (some ⟨b1, 0, none⟩) := by kernel_rfl
            have e3 : (WayF self x k b1 b2 Lx).eval (.tmp 3) = .pointer (some ⟨b1, 0, none⟩) := by kernel_rfl
            exact i_val rfl (.pointer (some ⟨b1, 2, none⟩)) w' (by rfl) (by go_simp) ⟨by kernel_rfl, hw⟩
          | 1, _ =>
            have h0 := haft 0 (by decide)
            have e23 : (WayF self x k b1 b2 Lx).eval (.tmp 23) = .pointer (some ⟨b1, 2, none⟩) := by show (bif Lx 0 then _ else _) = _; rw [h0]; rfl
            have g23 : (WayF self x k b1 b2 Lx).tmps[23]?.getD undef = .pointer (some ⟨b1, 2, none⟩) := by show (bif Lx 0 then _ else _) = _; rw [h0]; rfl
            exact i_val rfl (.agg (#[.int .u64 (x.v.r : Nat), .int .u32 (x.v.c : Nat), .int .u64 (x.v.b : Nat), .int .u16 (x.v.p : Nat)])) w' (by rfl) (kb_part hw 0 rfl 44 _ 2 (#[.int .u64 (x.v.r : Nat), .int .u32 (x.v.c : Nat), .int .u64 (x.v.b : Nat), .int .u16 (x.v.p : Nat)]).toList rfl e23 (part_of (by kernel_rfl)) Try.underlying44 rfl (sizeV)) ⟨by kernel_rfl, hw⟩
          | 2, _ =>
            have g3 : (WayF self x k b1 b2 Lx).tmps[3]?.getD undef = .pointer (some ⟨b1, 0, none⟩) := by kernel_rfl
            have e3 : (WayF self x k b1 b2 Lx).eval (.tmp 3) = .pointer (some ⟨b1, 0, none⟩) := by kernel_rfl
            exact i_val rfl (.pointer (some ⟨b1, 6, none⟩)) w' (by rfl) (by go_simp) ⟨by kernel_rfl, hw⟩
          | 3, _ =>
            have h2 := haft 2 (by decide)
            have e25 : (WayF self x k b1 b2 Lx).eval (.tmp 25) = .pointer (some ⟨b1, 6, none⟩) := by show (bif Lx 2 then _ else _) = _; rw [h2]; rfl
            have g25 : (WayF self x k b1 b2 Lx).tmps[25]?.getD undef = .pointer (some ⟨b1, 6, none⟩) := by show (bif Lx 2 then _ else _) = _; rw [h2]; rfl
            exact i_val rfl (.int .u32 (x.c : Nat)) w' (by rfl) (by have q : w'.cell? ⟨b1, 6, none⟩ = some (.int .u32 (x.c : Nat)) := Kb.cell (i := 0) hw rfl (by rfl); go_simp) ⟨by kernel_rfl, hw⟩
          | 4, _ =>
            have h1 := haft 1 (by decide)
            have e24 : (WayF self x k b1 b2 Lx).eval (.tmp 24) = .agg (#[.int .u64 (x.v.r : Nat), .int .u32 (x.v.c : Nat), .int .u64 (x.v.b : Nat), .int .u16 (x.v.p : Nat)]) := by show (bif Lx 1 then _ else _) = _; rw [h1]; rfl
            have g24 : (WayF self x k b1 b2 Lx).tmps[24]?.getD undef = .agg (#[.int .u64 (x.v.r : Nat), .int .u32 (x.v.c : Nat), .int .u64 (x.v.b : Nat), .int .u16 (x.v.p : Nat)]) := by show (bif Lx 1 then _ else _) = _; rw [h1]; rfl
            have h3 := haft 3 (by decide)
            have e26 : (WayF self x k b1 b2 Lx).eval (.tmp 26) = .int .u32 (x.c : Nat) := by show (bif Lx 3 then _ else _) = _; rw [h3]; rfl
            have g26 : (WayF self x k b1 b2 Lx).tmps[26]?.getD undef = .int .u32 (x.c : Nat) := by show (bif Lx 3 then _ else _) = _; rw [h3]; rfl
            exact i_call rfl (.agg (vcA (plusV x.v x.c))) 34 #[.agg (#[.int .u64 (x.v.r : Nat), .int .u32 (x.v.c : Nat), .int .u64 (x.v.b : Nat), .int .u16 (x.v.p : Nat)]), .int .u32 (x.c : Nat)] (fun w2 => Below w'.heap.size w' w2) (by rfl) (by go_simp) (plus_any x.v x.c w' HX.out.1.2.1 HX.out.2.1) (fun w2 hb => ⟨by kernel_rfl, hw.next hb⟩)
          | 5, _ =>
            have g3 : (WayF self x k b1 b2 Lx).tmps[3]?.getD undef = .pointer (some ⟨b1, 0, none⟩) := by kernel_rfl
            have e3 : (WayF self x k b1 b2 Lx).eval (.tmp 3) = .pointer (some ⟨b1, 0, none⟩) := by kernel_rfl
            exact i_val rfl (.pointer (some ⟨b1, 7, none⟩)) w' (by rfl) (by go_simp) ⟨by kernel_rfl, hw⟩
          | 6, _ =>
            have h5 := haft 5 (by decide)
            have e28 : (WayF self x k b1 b2 Lx).eval (.tmp 28) = .pointer (some ⟨b1, 7, none⟩) := by show (bif Lx 5 then _ else _) = _; rw [h5]; rfl
            have g28 : (WayF self x k b1 b2 Lx).tmps[28]?.getD undef = .pointer (some ⟨b1, 7, none⟩) := by show (bif Lx 5 then _ else _) = _; rw [h5]; rfl
            exact i_val rfl (.int .u16 (x.i : Nat)) w' (by rfl) (by have q : w'.cell? ⟨b1, 7, none⟩ = some (.int .u16 (x.i : Nat)) := Kb.cell (i := 0) hw rfl (by rfl); go_simp) ⟨by kernel_rfl, hw⟩
          | 7, _ =>
            have g2 : (WayF self x k b1 b2 Lx).tmps[2]?.getD undef = .int .i64 k := by kernel_rfl
            have e2 : (WayF self x k b1 b2 Lx).eval (.tmp 2) = .int .i64 k := by kernel_rfl
            exact i_val rfl (.int .i64 k) w' (by rfl) (by go_simp) ⟨by kernel_rfl, hw⟩
          | 8, _ =>
            have h4 := haft 4 (by decide)
            have e27 : (WayF self x k b1 b2 Lx).eval (.tmp 27) = .agg (vcA (plusV x.v x.c)) := by show (bif Lx 4 then _ else _) = _; rw [h4]; rfl
            have g27 : (WayF self x k b1 b2 Lx).tmps[27]?.getD undef = .agg (vcA (plusV x.v x.c)) := by show (bif Lx 4 then _ else _) = _; rw [h4]; rfl
            have h6 := haft 6 (by decide)
            have e29 : (WayF self x k b1 b2 Lx).eval (.tmp 29) = .int .u16 (x.i : Nat) := by show (bif Lx 6 then _ else _) = _; rw [h6]; rfl
            have g29 : (WayF self x k b1 b2 Lx).tmps[29]?.getD undef = .int .u16 (x.i : Nat) := by show (bif Lx 6 then _ else _) = _; rw [h6]; rfl
            have h7 := haft 7 (by decide)
            have e30 : (WayF self x k b1 b2 Lx).eval (.tmp 30) = .int .i64 k := by show (bif Lx 7 then _ else _) = _; rw [h7]; rfl
            have g30 : (WayF self x k b1 b2 Lx).tmps[30]?.getD undef = .int .i64 k := by show (bif Lx 7 then _ else _) = _; rw [h7]; rfl
            exact i_val rfl (.agg (wyA (plusV x.v x.c) x.i k)) w' (by rfl) (run_build_of 83 [(0, .tmp 27), (1, .tmp 29), (2, .tmp 30)] rfl _ (wyA (plusV x.v x.c) x.i k) (by simp only [List.map_cons, List.map_nil, e27, e29, e30]; rfl) (by kernel_rfl)) ⟨by kernel_rfl, hw⟩
          | 9, _ =>
            have g6 : (WayF self x k b1 b2 Lx).tmps[6]?.getD undef = .pointer (some ⟨b2, 0, none⟩) := by kernel_rfl
            have e6 : (WayF self x k b1 b2 Lx).eval (.tmp 6) = .pointer (some ⟨b2, 0, none⟩) := by kernel_rfl
            have h8 := haft 8 (by decide)
            have e31 : (WayF self x k b1 b2 Lx).eval (.tmp 31) = .agg (wyA (plusV x.v x.c) x.i k) := by show (bif Lx 8 then _ else _) = _; rw [h8]; rfl
            have g31 : (WayF self x k b1 b2 Lx).tmps[31]?.getD undef = .agg (wyA (plusV x.v x.c) x.i k) := by show (bif Lx 8 then _ else _) = _; rw [h8]; rfl
            exact i_wp rfl (by rfl) (wp_store_row 83 _ _ rfl b2 (wyA (plusV x.v x.c) x.i k) e6 e31 83 (bif Lx 9 then wyA (plusV x.v x.c) x.i k else nilW) (Kb.at (i := 1) hw rfl) (size83) (by rw [hL]; rfl) (by kernel_rfl) ⟨by kernel_rfl, cast_blk (Kb.row (i := 1) hw rfl (wyA (plusV x.v x.c) x.i k)) (by rfl)⟩)
          | k + 10, h =>
            exfalso
            have h2 : k + 10 < 10 := h
            omega
        intro Lx ac w3 hI hall
        obtain ⟨rfl, hw⟩ := hI
        have hfr : WayF self x k b1 b2 Lx = { tmps := #[.agg (#[.bool true, .bool true, .int .u64 (x.v.r : Nat), .int .u32 (x.v.c : Nat), .int .u64 (x.v.b : Nat), .int .u16 (x.v.p : Nat), .int .u32 (x.c : Nat), .int .u16 (x.i : Nat)]), .int .u64 (self : Nat), .int .i64 k, .pointer (some ⟨b1, 0, none⟩), undef, undef, .pointer (some ⟨b2, 0, none⟩), .pointer (some ⟨b1, 0, none⟩), .bool true, .bool false, .bool false, .pointer (some ⟨b1, 1, none⟩), .bool true, .bool false, .bool false, .bool false, .pointer (some ⟨b1, 2, none⟩), .pointer (some ⟨b1, 4, none⟩), .int .u64 (x.v.b : Nat), .int .u64 (self : Nat), .bool false, .bool false, undef, .pointer (some ⟨b1, 2, none⟩), .agg (#[.int .u64 (x.v.r : Nat), .int .u32 (x.v.c : Nat), .int .u64 (x.v.b : Nat), .int .u16 (x.v.p : Nat)]), .pointer (some ⟨b1, 6, none⟩), .int .u32 (x.c : Nat), .agg (vcA (plusV x.v x.c)), .pointer (some ⟨b1, 7, none⟩), .int .u16 (x.i : Nat), .int .i64 k, .agg (wyA (plusV x.v x.c) x.i k)], defers := [] } := by unfold WayF; simp only [hall 0 (by decide), hall 1 (by decide), hall 2 (by decide), hall 3 (by decide), hall 4 (by decide), hall 5 (by decide), hall 6 (by decide), hall 7 (by decide), hall 8 (by decide), cond_true]
        rw [hfr]
        clear hfr
        have hL9 := hall 9 (by decide)
        simp only [hL9, cond_true] at hw
        have K3 := Lib.hid (show Kb w [(b1, #[.bool true, .bool true, .int .u64 (x.v.r : Nat), .int .u32 (x.v.c : Nat), .int .u64 (x.v.b : Nat), .int .u16 (x.v.p : Nat), .int .u32 (x.c : Nat), .int .u16 (x.i : Nat)], 47), (b2, wyA (plusV x.v x.c) x.i k, 83)] w3 from hw)
        clear hw hall hL9
        go_wp2_with fail
        refine bodyPost_ret (v := .agg (wyA (plusV x.v x.c) x.i k)) (results_cell_row Try.results30 _ _ b2 83 (wyA (plusV x.v x.c) x.i k) (0, 0) _ rfl (K3.out.at (i := 1) rfl) Try.underlying83 rfl size83) rfl ?_
        exact ⟨rfl, K3.out.below⟩
set_option maxRecDepth 100000 in
set_option maxHeartbeats 8000000 in
theorem waheadW_any (u v : Vc) (i j : Nat) (k l : Int) (w : World) : Calls Try.prog 31 #[.agg (wyA u i k), .agg (wyA v j l)] w fun e w' => e = .returned (.bool (if eqV u v then decide (i < j) else lessV u v)) ∧ Below w.heap.size w w' := by
  have CE := Lib.hid (fun W => equal_vc u v W)
  cases he : eqV u v
  case false =>
    have K := Lib.hid (Kb.nil w)
    go_enter Try.func31, Try.ntmps31
    go_upto_region 0 with fail
    refine wp_region_lit ?_
    refine kb_box K.out 83 (.tmp 0) (wyA u i k) rfl rfl (by rfl) ?_
    intro b1 w1 hb1 hk
    have K1 := Lib.hid (show Kb w [(b1, wyA u i k, 83)] w1 from hk)
    clear hk hb1
    (try simp only [Act.put, List.getElem_toArray, List.getElem_cons_succ, List.getElem_cons_zero, List.setIfInBounds_toArray, List.set_cons_zero, List.set_cons_succ])
    refine kb_box K1.out 83 (.tmp 1) (wyA v j l) rfl rfl (by rfl) ?_
    intro b2 w2 hb2 hk
    have K2 := Lib.hid (show Kb w [(b1, wyA u i k, 83), (b2, wyA v j l, 83)] w2 from hk)
    clear hk hb2
    (try simp only [Act.put, List.getElem_toArray, List.getElem_cons_succ, List.getElem_cons_zero, List.setIfInBounds_toArray, List.set_cons_zero, List.set_cons_succ])
    refine wpList_val (.bool false) (by rfl) (by go_simp) ?_
    (try simp only [Act.put, List.getElem_toArray, List.getElem_cons_succ, List.getElem_cons_zero, List.setIfInBounds_toArray, List.set_cons_zero, List.set_cons_succ])
    refine wpList_nil ?_
    go_upto_region 1 with fail
    refine wp_region_lit ?_
    refine wpList_val (.pointer (some ⟨b1, 0, none⟩)) (by rfl) (by go_simp) ?_
    (try simp only [Act.put, List.getElem_toArray, List.getElem_cons_succ, List.getElem_cons_zero, List.setIfInBounds_toArray, List.set_cons_zero, List.set_cons_succ])
    refine wpList_val (.agg (#[.int .u64 (u.r : Nat), .int .u32 (u.c : Nat), .int .u64 (u.b : Nat), .int .u16 (u.p : Nat)])) (by rfl) (kb_part K2.out 0 rfl 44 _ 0 (#[.int .u64 (u.r : Nat), .int .u32 (u.c : Nat), .int .u64 (u.b : Nat), .int .u16 (u.p : Nat)]).toList rfl rfl (part_of (by kernel_rfl)) Try.underlying44 rfl (sizeV)) ?_
    (try simp only [Act.put, List.getElem_toArray, List.getElem_cons_succ, List.getElem_cons_zero, List.setIfInBounds_toArray, List.set_cons_zero, List.set_cons_succ])
    refine wpList_val (.pointer (some ⟨b2, 0, none⟩)) (by rfl) (by go_simp) ?_
    (try simp only [Act.put, List.getElem_toArray, List.getElem_cons_succ, List.getElem_cons_zero, List.setIfInBounds_toArray, List.set_cons_zero, List.set_cons_succ])
    refine wpList_val (.agg (#[.int .u64 (v.r : Nat), .int .u32 (v.c : Nat), .int .u64 (v.b : Nat), .int .u16 (v.p : Nat)])) (by rfl) (kb_part K2.out 1 rfl 44 _ 0 (#[.int .u64 (v.r : Nat), .int .u32 (v.c : Nat), .int .u64 (v.b : Nat), .int .u16 (v.p : Nat)]).toList rfl rfl (part_of (by kernel_rfl)) Try.underlying44 rfl (sizeV)) ?_
    (try simp only [Act.put, List.getElem_toArray, List.getElem_cons_succ, List.getElem_cons_zero, List.setIfInBounds_toArray, List.set_cons_zero, List.set_cons_succ])
    refine wpList_val (.bool true) (by rfl) (by have q := CE.out; rw [he] at q; go_simp) ?_
    (try simp only [Act.put, List.getElem_toArray, List.getElem_cons_succ, List.getElem_cons_zero, List.setIfInBounds_toArray, List.set_cons_zero, List.set_cons_succ])
    refine wpList_nil ?_
    go_upto_region 2 with fail
    refine wp_region_lit ?_
    refine wpList_val (.pointer (some ⟨b1, 0, none⟩)) (by rfl) (by go_simp) ?_
    (try simp only [Act.put, List.getElem_toArray, List.getElem_cons_succ, List.getElem_cons_zero, List.setIfInBounds_toArray, List.set_cons_zero, List.set_cons_succ])
    refine wpList_val (.agg (#[.int .u64 (u.r : Nat), .int .u32 (u.c : Nat), .int .u64 (u.b : Nat), .int .u16 (u.p : Nat)])) (by rfl) (kb_part K2.out 0 rfl 44 _ 0 (#[.int .u64 (u.r : Nat), .int .u32 (u.c : Nat), .int .u64 (u.b : Nat), .int .u16 (u.p : Nat)]).toList rfl rfl (part_of (by kernel_rfl)) Try.underlying44 rfl (sizeV)) ?_
    (try simp only [Act.put, List.getElem_toArray, List.getElem_cons_succ, List.getElem_cons_zero, List.setIfInBounds_toArray, List.set_cons_zero, List.set_cons_succ])
    refine wpList_val (.pointer (some ⟨b2, 0, none⟩)) (by rfl) (by go_simp) ?_
    (try simp only [Act.put, List.getElem_toArray, List.getElem_cons_succ, List.getElem_cons_zero, List.setIfInBounds_toArray, List.set_cons_zero, List.set_cons_succ])
    refine wpList_val (.agg (#[.int .u64 (v.r : Nat), .int .u32 (v.c : Nat), .int .u64 (v.b : Nat), .int .u16 (v.p : Nat)])) (by rfl) (kb_part K2.out 1 rfl 44 _ 0 (#[.int .u64 (v.r : Nat), .int .u32 (v.c : Nat), .int .u64 (v.b : Nat), .int .u16 (v.p : Nat)]).toList rfl rfl (part_of (by kernel_rfl)) Try.underlying44 rfl (sizeV)) ?_
    (try simp only [Act.put, List.getElem_toArray, List.getElem_cons_succ, List.getElem_cons_zero, List.setIfInBounds_toArray, List.set_cons_zero, List.set_cons_succ])
    refine kb_call K2.out 13 #[.agg (#[.int .u64 (u.r : Nat), .int .u32 (u.c : Nat), .int .u64 (u.b : Nat), .int .u16 (u.p : Nat)]), .agg (#[.int .u64 (v.r : Nat), .int .u32 (v.c : Nat), .int .u64 (v.b : Nat), .int .u16 (v.p : Nat)])] (.bool (lessV u v)) (by rfl) (by go_simp) (better_any u v w2) ?_
    intro w3 hk
    have K3 := Lib.hid (show Kb w [(b1, wyA u i k, 83), (b2, wyA v j l, 83)] w3 from hk)
    clear hk
    (try simp only [Act.put, List.getElem_toArray, List.getElem_cons_succ, List.getElem_cons_zero, List.setIfInBounds_toArray, List.set_cons_zero, List.set_cons_succ])
    refine wpList_val (.bool (lessV u v)) (by rfl) (by go_simp) ?_
    (try simp only [Act.put, List.getElem_toArray, List.getElem_cons_succ, List.getElem_cons_zero, List.setIfInBounds_toArray, List.set_cons_zero, List.set_cons_succ])
    refine wpList_nil ?_
    go_wp2_with fail
    go_ret
    exact ⟨ret_bool (by simp), K3.out.below⟩
  case true =>
    have K := Lib.hid (Kb.nil w)
    go_enter Try.func31, Try.ntmps31
    go_upto_region 0 with fail
    refine wp_region_lit ?_
    refine kb_box K.out 83 (.tmp 0) (wyA u i k) rfl rfl (by rfl) ?_
    intro b1 w1 hb1 hk
    have K1 := Lib.hid (show Kb w [(b1, wyA u i k, 83)] w1 from hk)
    clear hk hb1
    (try simp only [Act.put, List.getElem_toArray, List.getElem_cons_succ, List.getElem_cons_zero, List.setIfInBounds_toArray, List.set_cons_zero, List.set_cons_succ])
    refine kb_box K1.out 83 (.tmp 1) (wyA v j l) rfl rfl (by rfl) ?_
    intro b2 w2 hb2 hk
    have K2 := Lib.hid (show Kb w [(b1, wyA u i k, 83), (b2, wyA v j l, 83)] w2 from hk)
    clear hk hb2
    (try simp only [Act.put, List.getElem_toArray, List.getElem_cons_succ, List.getElem_cons_zero, List.setIfInBounds_toArray, List.set_cons_zero, List.set_cons_succ])
    refine wpList_val (.bool false) (by rfl) (by go_simp) ?_
    (try simp only [Act.put, List.getElem_toArray, List.getElem_cons_succ, List.getElem_cons_zero, List.setIfInBounds_toArray, List.set_cons_zero, List.set_cons_succ])
    refine wpList_nil ?_
    go_upto_region 1 with fail
    refine wp_region_lit ?_
    refine wpList_val (.pointer (some ⟨b1, 0, none⟩)) (by rfl) (by go_simp) ?_
    (try simp only [Act.put, List.getElem_toArray, List.getElem_cons_succ, List.getElem_cons_zero, List.setIfInBounds_toArray, List.set_cons_zero, List.set_cons_succ])
    refine wpList_val (.agg (#[.int .u64 (u.r : Nat), .int .u32 (u.c : Nat), .int .u64 (u.b : Nat), .int .u16 (u.p : Nat)])) (by rfl) (kb_part K2.out 0 rfl 44 _ 0 (#[.int .u64 (u.r : Nat), .int .u32 (u.c : Nat), .int .u64 (u.b : Nat), .int .u16 (u.p : Nat)]).toList rfl rfl (part_of (by kernel_rfl)) Try.underlying44 rfl (sizeV)) ?_
    (try simp only [Act.put, List.getElem_toArray, List.getElem_cons_succ, List.getElem_cons_zero, List.setIfInBounds_toArray, List.set_cons_zero, List.set_cons_succ])
    refine wpList_val (.pointer (some ⟨b2, 0, none⟩)) (by rfl) (by go_simp) ?_
    (try simp only [Act.put, List.getElem_toArray, List.getElem_cons_succ, List.getElem_cons_zero, List.setIfInBounds_toArray, List.set_cons_zero, List.set_cons_succ])
    refine wpList_val (.agg (#[.int .u64 (v.r : Nat), .int .u32 (v.c : Nat), .int .u64 (v.b : Nat), .int .u16 (v.p : Nat)])) (by rfl) (kb_part K2.out 1 rfl 44 _ 0 (#[.int .u64 (v.r : Nat), .int .u32 (v.c : Nat), .int .u64 (v.b : Nat), .int .u16 (v.p : Nat)]).toList rfl rfl (part_of (by kernel_rfl)) Try.underlying44 rfl (sizeV)) ?_
    (try simp only [Act.put, List.getElem_toArray, List.getElem_cons_succ, List.getElem_cons_zero, List.setIfInBounds_toArray, List.set_cons_zero, List.set_cons_succ])
    refine wpList_val (.bool false) (by rfl) (by have q := CE.out; rw [he] at q; go_simp) ?_
    (try simp only [Act.put, List.getElem_toArray, List.getElem_cons_succ, List.getElem_cons_zero, List.setIfInBounds_toArray, List.set_cons_zero, List.set_cons_succ])
    refine wpList_nil ?_
    go_upto_region 3 with fail
    refine wp_region_lit ?_
    refine wpList_val (.pointer (some ⟨b1, 4, none⟩)) (by rfl) (by go_simp) ?_
    (try simp only [Act.put, List.getElem_toArray, List.getElem_cons_succ, List.getElem_cons_zero, List.setIfInBounds_toArray, List.set_cons_zero, List.set_cons_succ])
    refine wpList_val (.int .u16 (i : Nat)) (by rfl) (by have q : w2.cell? ⟨b1, 4, none⟩ = some (.int .u16 (i : Nat)) := K2.out.cell (i := 0) rfl (by rfl); go_simp) ?_
    (try simp only [Act.put, List.getElem_toArray, List.getElem_cons_succ, List.getElem_cons_zero, List.setIfInBounds_toArray, List.set_cons_zero, List.set_cons_succ])
    refine wpList_val (.pointer (some ⟨b2, 4, none⟩)) (by rfl) (by go_simp) ?_
    (try simp only [Act.put, List.getElem_toArray, List.getElem_cons_succ, List.getElem_cons_zero, List.setIfInBounds_toArray, List.set_cons_zero, List.set_cons_succ])
    refine wpList_val (.int .u16 (j : Nat)) (by rfl) (by have q : w2.cell? ⟨b2, 4, none⟩ = some (.int .u16 (j : Nat)) := K2.out.cell (i := 1) rfl (by rfl); go_simp) ?_
    (try simp only [Act.put, List.getElem_toArray, List.getElem_cons_succ, List.getElem_cons_zero, List.setIfInBounds_toArray, List.set_cons_zero, List.set_cons_succ])
    refine wpList_val (.bool (decide ((i : Int) < (j : Int)))) (by rfl) (by go_simp) ?_
    (try simp only [Act.put, List.getElem_toArray, List.getElem_cons_succ, List.getElem_cons_zero, List.setIfInBounds_toArray, List.set_cons_zero, List.set_cons_succ])
    refine wpList_val (.bool (decide ((i : Int) < (j : Int)))) (by rfl) (by go_simp) ?_
    (try simp only [Act.put, List.getElem_toArray, List.getElem_cons_succ, List.getElem_cons_zero, List.setIfInBounds_toArray, List.set_cons_zero, List.set_cons_succ])
    refine wpList_nil ?_
    go_wp2_with fail
    go_ret
    exact ⟨ret_bool (by simp), K2.out.below⟩
set_option maxRecDepth 100000 in
set_option maxHeartbeats 8000000 in
theorem role_any (self : Nat) (t : Vc) (x : Rp) (w : World) : Calls Try.prog 22 #[.agg (rpA x), .int .u64 (self : Nat), .agg (vcA t)] w fun e w' => e = .returned (.int .i64 (roleN self t x)) ∧ Below w.heap.size w w' := by
  have CB := Lib.hid (fun w => better_any x.v t w)
  obtain ⟨o, ho⟩ : ∃ o, o = x.on := ⟨_, rfl⟩
  obtain ⟨h, hh⟩ : ∃ o, o = x.hd := ⟨_, rfl⟩
  have HO := Lib.hid ho
  have HH := Lib.hid hh
  clear ho hh
  cases o
  case false =>
    have EA : rpA x = #[.bool false, .bool h, .int .u64 (x.v.r : Nat), .int .u32 (x.v.c : Nat), .int .u64 (x.v.b : Nat), .int .u16 (x.v.p : Nat), .int .u32 (x.c : Nat), .int .u16 (x.i : Nat)] := by unfold rpA; rw [← HO.out, ← HH.out]
    have HW : roleN self t x = 0 := by unfold roleN; rw [← HO.out, ← HH.out]; simp
    rw [HW, EA]
    clear HW EA
    have K := Lib.hid (Kb.nil w)
    go_enter Try.func22, Try.ntmps22
    go_upto_region 0 with fail
    refine wp_region_lit ?_
    refine kb_box K.out 47 (.tmp 0) (#[.bool false, .bool h, .int .u64 (x.v.r : Nat), .int .u32 (x.v.c : Nat), .int .u64 (x.v.b : Nat), .int .u16 (x.v.p : Nat), .int .u32 (x.c : Nat), .int .u16 (x.i : Nat)]) rfl rfl (by rfl) ?_
    intro b1 w1 hb1 hk
    have K1 := Lib.hid (show Kb w [(b1, #[.bool false, .bool h, .int .u64 (x.v.r : Nat), .int .u32 (x.v.c : Nat), .int .u64 (x.v.b : Nat), .int .u16 (x.v.p : Nat), .int .u32 (x.c : Nat), .int .u16 (x.i : Nat)], 47)] w1 from hk)
    clear hk hb1
    (try simp only [Act.put, List.getElem_toArray, List.getElem_cons_succ, List.getElem_cons_zero, List.setIfInBounds_toArray, List.set_cons_zero, List.set_cons_succ])
    refine kb_box K1.out 44 (.tmp 2) (vcA t) rfl rfl (by rfl) ?_
    intro b2 w2 hb2 hk
    have K2 := Lib.hid (show Kb w [(b1, #[.bool false, .bool h, .int .u64 (x.v.r : Nat), .int .u32 (x.v.c : Nat), .int .u64 (x.v.b : Nat), .int .u16 (x.v.p : Nat), .int .u32 (x.c : Nat), .int .u16 (x.i : Nat)], 47), (b2, vcA t, 44)] w2 from hk)
    clear hk hb2
    (try simp only [Act.put, List.getElem_toArray, List.getElem_cons_succ, List.getElem_cons_zero, List.setIfInBounds_toArray, List.set_cons_zero, List.set_cons_succ])
    refine wpList_val (.int .i64 0) (by rfl) (by go_simp) ?_
    (try simp only [Act.put, List.getElem_toArray, List.getElem_cons_succ, List.getElem_cons_zero, List.setIfInBounds_toArray, List.set_cons_zero, List.set_cons_succ])
    refine wpList_nil ?_
    go_upto_region 1 with fail
    refine wp_region_lit ?_
    refine wpList_val (.pointer (some ⟨b1, 0, none⟩)) (by rfl) (by go_simp) ?_
    (try simp only [Act.put, List.getElem_toArray, List.getElem_cons_succ, List.getElem_cons_zero, List.setIfInBounds_toArray, List.set_cons_zero, List.set_cons_succ])
    refine wpList_val (.bool false) (by rfl) (by have q : w2.cell? ⟨b1, 0, none⟩ = some (.bool false) := K2.out.cell (i := 0) rfl (by rfl); go_simp) ?_
    (try simp only [Act.put, List.getElem_toArray, List.getElem_cons_succ, List.getElem_cons_zero, List.setIfInBounds_toArray, List.set_cons_zero, List.set_cons_succ])
    refine wpList_val (.bool true) (by rfl) (by go_simp) ?_
    (try simp only [Act.put, List.getElem_toArray, List.getElem_cons_succ, List.getElem_cons_zero, List.setIfInBounds_toArray, List.set_cons_zero, List.set_cons_succ])
    refine wpList_val (.bool true) (by rfl) (by go_simp) ?_
    (try simp only [Act.put, List.getElem_toArray, List.getElem_cons_succ, List.getElem_cons_zero, List.setIfInBounds_toArray, List.set_cons_zero, List.set_cons_succ])
    refine wpList_nil ?_
    go_upto_region 2 with fail
    refine wp_region_lit ?_
    refine wpList_val (.int .i64 0) (by rfl) (by go_simp) ?_
    (try simp only [Act.put, List.getElem_toArray, List.getElem_cons_succ, List.getElem_cons_zero, List.setIfInBounds_toArray, List.set_cons_zero, List.set_cons_succ])
    refine wpList_nil ?_
    go_wp2_with fail
    go_ret
    exact ⟨rfl, K2.out.below⟩
  case true =>
    cases h
    case false =>
      have EA : rpA x = #[.bool true, .bool false, .int .u64 (x.v.r : Nat), .int .u32 (x.v.c : Nat), .int .u64 (x.v.b : Nat), .int .u16 (x.v.p : Nat), .int .u32 (x.c : Nat), .int .u16 (x.i : Nat)] := by unfold rpA; rw [← HO.out, ← HH.out]
      have HW : roleN self t x = 4 := by unfold roleN; rw [← HO.out, ← HH.out]; simp
      rw [HW, EA]
      clear HW EA
      have K := Lib.hid (Kb.nil w)
      go_enter Try.func22, Try.ntmps22
      go_upto_region 0 with fail
      refine wp_region_lit ?_
      refine kb_box K.out 47 (.tmp 0) (#[.bool true, .bool false, .int .u64 (x.v.r : Nat), .int .u32 (x.v.c : Nat), .int .u64 (x.v.b : Nat), .int .u16 (x.v.p : Nat), .int .u32 (x.c : Nat), .int .u16 (x.i : Nat)]) rfl rfl (by rfl) ?_
      intro b1 w1 hb1 hk
      have K1 := Lib.hid (show Kb w [(b1, #[.bool true, .bool false, .int .u64 (x.v.r : Nat), .int .u32 (x.v.c : Nat), .int .u64 (x.v.b : Nat), .int .u16 (x.v.p : Nat), .int .u32 (x.c : Nat), .int .u16 (x.i : Nat)], 47)] w1 from hk)
      clear hk hb1
      (try simp only [Act.put, List.getElem_toArray, List.getElem_cons_succ, List.getElem_cons_zero, List.setIfInBounds_toArray, List.set_cons_zero, List.set_cons_succ])
      refine kb_box K1.out 44 (.tmp 2) (vcA t) rfl rfl (by rfl) ?_
      intro b2 w2 hb2 hk
      have K2 := Lib.hid (show Kb w [(b1, #[.bool true, .bool false, .int .u64 (x.v.r : Nat), .int .u32 (x.v.c : Nat), .int .u64 (x.v.b : Nat), .int .u16 (x.v.p : Nat), .int .u32 (x.c : Nat), .int .u16 (x.i : Nat)], 47), (b2, vcA t, 44)] w2 from hk)
      clear hk hb2
      (try simp only [Act.put, List.getElem_toArray, List.getElem_cons_succ, List.getElem_cons_zero, List.setIfInBounds_toArray, List.set_cons_zero, List.set_cons_succ])
      refine wpList_val (.int .i64 0) (by rfl) (by go_simp) ?_
      (try simp only [Act.put, List.getElem_toArray, List.getElem_cons_succ, List.getElem_cons_zero, List.setIfInBounds_toArray, List.set_cons_zero, List.set_cons_succ])
      refine wpList_nil ?_
      go_upto_region 1 with fail
      refine wp_region_lit ?_
      refine wpList_val (.pointer (some ⟨b1, 0, none⟩)) (by rfl) (by go_simp) ?_
      (try simp only [Act.put, List.getElem_toArray, List.getElem_cons_succ, List.getElem_cons_zero, List.setIfInBounds_toArray, List.set_cons_zero, List.set_cons_succ])
      refine wpList_val (.bool true) (by rfl) (by have q : w2.cell? ⟨b1, 0, none⟩ = some (.bool true) := K2.out.cell (i := 0) rfl (by rfl); go_simp) ?_
      (try simp only [Act.put, List.getElem_toArray, List.getElem_cons_succ, List.getElem_cons_zero, List.setIfInBounds_toArray, List.set_cons_zero, List.set_cons_succ])
      refine wpList_val (.bool false) (by rfl) (by go_simp) ?_
      (try simp only [Act.put, List.getElem_toArray, List.getElem_cons_succ, List.getElem_cons_zero, List.setIfInBounds_toArray, List.set_cons_zero, List.set_cons_succ])
      refine wpList_val (.bool false) (by rfl) (by go_simp) ?_
      (try simp only [Act.put, List.getElem_toArray, List.getElem_cons_succ, List.getElem_cons_zero, List.setIfInBounds_toArray, List.set_cons_zero, List.set_cons_succ])
      refine wpList_nil ?_
      go_upto_region 3 with fail
      refine wp_region_lit ?_
      refine wpList_val (.pointer (some ⟨b1, 1, none⟩)) (by rfl) (by go_simp) ?_
      (try simp only [Act.put, List.getElem_toArray, List.getElem_cons_succ, List.getElem_cons_zero, List.setIfInBounds_toArray, List.set_cons_zero, List.set_cons_succ])
      refine wpList_val (.bool false) (by rfl) (by have q : w2.cell? ⟨b1, 1, none⟩ = some (.bool false) := K2.out.cell (i := 0) rfl (by rfl); go_simp) ?_
      (try simp only [Act.put, List.getElem_toArray, List.getElem_cons_succ, List.getElem_cons_zero, List.setIfInBounds_toArray, List.set_cons_zero, List.set_cons_succ])
      refine wpList_val (.bool true) (by rfl) (by go_simp) ?_
      (try simp only [Act.put, List.getElem_toArray, List.getElem_cons_succ, List.getElem_cons_zero, List.setIfInBounds_toArray, List.set_cons_zero, List.set_cons_succ])
      refine wpList_val (.bool true) (by rfl) (by go_simp) ?_
      (try simp only [Act.put, List.getElem_toArray, List.getElem_cons_succ, List.getElem_cons_zero, List.setIfInBounds_toArray, List.set_cons_zero, List.set_cons_succ])
      refine wpList_skip (by kernel_rfl) ?_
      (try simp only [Act.put, List.getElem_toArray, List.getElem_cons_succ, List.getElem_cons_zero, List.setIfInBounds_toArray, List.set_cons_zero, List.set_cons_succ])
      refine wpList_skip (by kernel_rfl) ?_
      (try simp only [Act.put, List.getElem_toArray, List.getElem_cons_succ, List.getElem_cons_zero, List.setIfInBounds_toArray, List.set_cons_zero, List.set_cons_succ])
      refine wpList_skip (by kernel_rfl) ?_
      (try simp only [Act.put, List.getElem_toArray, List.getElem_cons_succ, List.getElem_cons_zero, List.setIfInBounds_toArray, List.set_cons_zero, List.set_cons_succ])
      refine wpList_skip (by kernel_rfl) ?_
      (try simp only [Act.put, List.getElem_toArray, List.getElem_cons_succ, List.getElem_cons_zero, List.setIfInBounds_toArray, List.set_cons_zero, List.set_cons_succ])
      refine wpList_skip (by kernel_rfl) ?_
      (try simp only [Act.put, List.getElem_toArray, List.getElem_cons_succ, List.getElem_cons_zero, List.setIfInBounds_toArray, List.set_cons_zero, List.set_cons_succ])
      refine wpList_val (.bool true) (by rfl) (run_pick_yes (.tmp 15) (.const (.bool true)) (.tmp 20) _ rfl rfl rfl) ?_
      (try simp only [Act.put, List.getElem_toArray, List.getElem_cons_succ, List.getElem_cons_zero, List.setIfInBounds_toArray, List.set_cons_zero, List.set_cons_succ])
      refine wpList_val (.bool true) (by rfl) (by go_simp) ?_
      (try simp only [Act.put, List.getElem_toArray, List.getElem_cons_succ, List.getElem_cons_zero, List.setIfInBounds_toArray, List.set_cons_zero, List.set_cons_succ])
      refine wpList_nil ?_
      go_upto_region 4 with fail
      refine wp_region_lit ?_
      refine wpList_val (.int .i64 4) (by rfl) (by go_simp) ?_
      (try simp only [Act.put, List.getElem_toArray, List.getElem_cons_succ, List.getElem_cons_zero, List.setIfInBounds_toArray, List.set_cons_zero, List.set_cons_succ])
      refine wpList_nil ?_
      go_wp2_with fail
      go_ret
      exact ⟨rfl, K2.out.below⟩
    case true =>
      cases hl : lessV x.v t
      case false =>
        have EA : rpA x = #[.bool true, .bool true, .int .u64 (x.v.r : Nat), .int .u32 (x.v.c : Nat), .int .u64 (x.v.b : Nat), .int .u16 (x.v.p : Nat), .int .u32 (x.c : Nat), .int .u16 (x.i : Nat)] := by unfold rpA; rw [← HO.out, ← HH.out]
        have HW : roleN self t x = 4 := by unfold roleN; rw [← HO.out, ← HH.out]; simp [hl]
        rw [HW, EA]
        clear HW EA
        have K := Lib.hid (Kb.nil w)
        go_enter Try.func22, Try.ntmps22
        go_upto_region 0 with fail
        refine wp_region_lit ?_
        refine kb_box K.out 47 (.tmp 0) (#[.bool true, .bool true, .int .u64 (x.v.r : Nat), .int .u32 (x.v.c : Nat), .int .u64 (x.v.b : Nat), .int .u16 (x.v.p : Nat), .int .u32 (x.c : Nat), .int .u16 (x.i : Nat)]) rfl rfl (by rfl) ?_
        intro b1 w1 hb1 hk
        have K1 := Lib.hid (show Kb w [(b1, #[.bool true, .bool true, .int .u64 (x.v.r : Nat), .int .u32 (x.v.c : Nat), .int .u64 (x.v.b : Nat), .int .u16 (x.v.p : Nat), .int .u32 (x.c : Nat), .int .u16 (x.i : Nat)], 47)] w1 from hk)
        clear hk hb1
        (try simp only [Act.put, List.getElem_toArray, List.getElem_cons_succ, List.getElem_cons_zero, List.setIfInBounds_toArray, List.set_cons_zero, List.set_cons_succ])
        refine kb_box K1.out 44 (.tmp 2) (vcA t) rfl rfl (by rfl) ?_
        intro b2 w2 hb2 hk
        have K2 := Lib.hid (show Kb w [(b1, #[.bool true, .bool true, .int .u64 (x.v.r : Nat), .int .u32 (x.v.c : Nat), .int .u64 (x.v.b : Nat), .int .u16 (x.v.p : Nat), .int .u32 (x.c : Nat), .int .u16 (x.i : Nat)], 47), (b2, vcA t, 44)] w2 from hk)
        clear hk hb2
        (try simp only [Act.put, List.getElem_toArray, List.getElem_cons_succ, List.getElem_cons_zero, List.setIfInBounds_toArray, List.set_cons_zero, List.set_cons_succ])
        refine wpList_val (.int .i64 0) (by rfl) (by go_simp) ?_
        (try simp only [Act.put, List.getElem_toArray, List.getElem_cons_succ, List.getElem_cons_zero, List.setIfInBounds_toArray, List.set_cons_zero, List.set_cons_succ])
        refine wpList_nil ?_
        go_upto_region 1 with fail
        refine wp_region_lit ?_
        refine wpList_val (.pointer (some ⟨b1, 0, none⟩)) (by rfl) (by go_simp) ?_
        (try simp only [Act.put, List.getElem_toArray, List.getElem_cons_succ, List.getElem_cons_zero, List.setIfInBounds_toArray, List.set_cons_zero, List.set_cons_succ])
        refine wpList_val (.bool true) (by rfl) (by have q : w2.cell? ⟨b1, 0, none⟩ = some (.bool true) := K2.out.cell (i := 0) rfl (by rfl); go_simp) ?_
        (try simp only [Act.put, List.getElem_toArray, List.getElem_cons_succ, List.getElem_cons_zero, List.setIfInBounds_toArray, List.set_cons_zero, List.set_cons_succ])
        refine wpList_val (.bool false) (by rfl) (by go_simp) ?_
        (try simp only [Act.put, List.getElem_toArray, List.getElem_cons_succ, List.getElem_cons_zero, List.setIfInBounds_toArray, List.set_cons_zero, List.set_cons_succ])
        refine wpList_val (.bool false) (by rfl) (by go_simp) ?_
        (try simp only [Act.put, List.getElem_toArray, List.getElem_cons_succ, List.getElem_cons_zero, List.setIfInBounds_toArray, List.set_cons_zero, List.set_cons_succ])
        refine wpList_nil ?_
        go_upto_region 3 with fail
        refine wp_region_lit ?_
        refine wpList_val (.pointer (some ⟨b1, 1, none⟩)) (by rfl) (by go_simp) ?_
        (try simp only [Act.put, List.getElem_toArray, List.getElem_cons_succ, List.getElem_cons_zero, List.setIfInBounds_toArray, List.set_cons_zero, List.set_cons_succ])
        refine wpList_val (.bool true) (by rfl) (by have q : w2.cell? ⟨b1, 1, none⟩ = some (.bool true) := K2.out.cell (i := 0) rfl (by rfl); go_simp) ?_
        (try simp only [Act.put, List.getElem_toArray, List.getElem_cons_succ, List.getElem_cons_zero, List.setIfInBounds_toArray, List.set_cons_zero, List.set_cons_succ])
        refine wpList_val (.bool false) (by rfl) (by go_simp) ?_
        (try simp only [Act.put, List.getElem_toArray, List.getElem_cons_succ, List.getElem_cons_zero, List.setIfInBounds_toArray, List.set_cons_zero, List.set_cons_succ])
        refine wpList_val (.bool false) (by rfl) (by go_simp) ?_
        (try simp only [Act.put, List.getElem_toArray, List.getElem_cons_succ, List.getElem_cons_zero, List.setIfInBounds_toArray, List.set_cons_zero, List.set_cons_succ])
        refine wpList_val (.pointer (some ⟨b1, 2, none⟩)) (by rfl) (by go_simp) ?_
        (try simp only [Act.put, List.getElem_toArray, List.getElem_cons_succ, List.getElem_cons_zero, List.setIfInBounds_toArray, List.set_cons_zero, List.set_cons_succ])
        refine wpList_val (.agg (#[.int .u64 (x.v.r : Nat), .int .u32 (x.v.c : Nat), .int .u64 (x.v.b : Nat), .int .u16 (x.v.p : Nat)])) (by rfl) (kb_part K2.out 0 rfl 44 _ 2 (#[.int .u64 (x.v.r : Nat), .int .u32 (x.v.c : Nat), .int .u64 (x.v.b : Nat), .int .u16 (x.v.p : Nat)]).toList rfl rfl (part_of (by kernel_rfl)) Try.underlying44 rfl (sizeV)) ?_
        (try simp only [Act.put, List.getElem_toArray, List.getElem_cons_succ, List.getElem_cons_zero, List.setIfInBounds_toArray, List.set_cons_zero, List.set_cons_succ])
        refine wpList_val (.agg (vcA t)) (by rfl) (kb_all K2.out 1 rfl 44 _ rfl rfl Try.underlying44 rfl (sizeV)) ?_
        (try simp only [Act.put, List.getElem_toArray, List.getElem_cons_succ, List.getElem_cons_zero, List.setIfInBounds_toArray, List.set_cons_zero, List.set_cons_succ])
        refine kb_call K2.out 13 #[.agg (#[.int .u64 (x.v.r : Nat), .int .u32 (x.v.c : Nat), .int .u64 (x.v.b : Nat), .int .u16 (x.v.p : Nat)]), .agg (vcA t)] (.bool false) (by rfl) (by go_simp) (by have q := CB.out w2; rw [hl] at q; exact q) ?_
        intro w3 hk
        have K3 := Lib.hid (show Kb w [(b1, #[.bool true, .bool true, .int .u64 (x.v.r : Nat), .int .u32 (x.v.c : Nat), .int .u64 (x.v.b : Nat), .int .u16 (x.v.p : Nat), .int .u32 (x.c : Nat), .int .u16 (x.i : Nat)], 47), (b2, vcA t, 44)] w3 from hk)
        clear hk
        (try simp only [Act.put, List.getElem_toArray, List.getElem_cons_succ, List.getElem_cons_zero, List.setIfInBounds_toArray, List.set_cons_zero, List.set_cons_succ])
        refine wpList_val (.bool true) (by rfl) (by go_simp) ?_
        (try simp only [Act.put, List.getElem_toArray, List.getElem_cons_succ, List.getElem_cons_zero, List.setIfInBounds_toArray, List.set_cons_zero, List.set_cons_succ])
        refine wpList_val (.bool true) (by rfl) (run_pick_no (.tmp 15) (.const (.bool true)) (.tmp 20) _ rfl rfl rfl) ?_
        (try simp only [Act.put, List.getElem_toArray, List.getElem_cons_succ, List.getElem_cons_zero, List.setIfInBounds_toArray, List.set_cons_zero, List.set_cons_succ])
        refine wpList_val (.bool true) (by rfl) (by go_simp) ?_
        (try simp only [Act.put, List.getElem_toArray, List.getElem_cons_succ, List.getElem_cons_zero, List.setIfInBounds_toArray, List.set_cons_zero, List.set_cons_succ])
        refine wpList_nil ?_
        go_upto_region 4 with fail
        refine wp_region_lit ?_
        refine wpList_val (.int .i64 4) (by rfl) (by go_simp) ?_
        (try simp only [Act.put, List.getElem_toArray, List.getElem_cons_succ, List.getElem_cons_zero, List.setIfInBounds_toArray, List.set_cons_zero, List.set_cons_succ])
        refine wpList_nil ?_
        go_wp2_with fail
        go_ret
        exact ⟨rfl, K3.out.below⟩
      case true =>
        by_cases hb : x.v.b = self
        case pos =>
          have hbi : (x.v.b : Int) = (self : Int) := by omega
          have EA : rpA x = #[.bool true, .bool true, .int .u64 (x.v.r : Nat), .int .u32 (x.v.c : Nat), .int .u64 (x.v.b : Nat), .int .u16 (x.v.p : Nat), .int .u32 (x.c : Nat), .int .u16 (x.i : Nat)] := by unfold rpA; rw [← HO.out, ← HH.out]
          have HW : roleN self t x = 2 := by unfold roleN; rw [← HO.out, ← HH.out]; simp [hl, hb]
          rw [HW, EA]
          clear HW EA
          have K := Lib.hid (Kb.nil w)
          go_enter Try.func22, Try.ntmps22
          go_upto_region 0 with fail
          refine wp_region_lit ?_
          refine kb_box K.out 47 (.tmp 0) (#[.bool true, .bool true, .int .u64 (x.v.r : Nat), .int .u32 (x.v.c : Nat), .int .u64 (x.v.b : Nat), .int .u16 (x.v.p : Nat), .int .u32 (x.c : Nat), .int .u16 (x.i : Nat)]) rfl rfl (by rfl) ?_
          intro b1 w1 hb1 hk
          have K1 := Lib.hid (show Kb w [(b1, #[.bool true, .bool true, .int .u64 (x.v.r : Nat), .int .u32 (x.v.c : Nat), .int .u64 (x.v.b : Nat), .int .u16 (x.v.p : Nat), .int .u32 (x.c : Nat), .int .u16 (x.i : Nat)], 47)] w1 from hk)
          clear hk hb1
          (try simp only [Act.put, List.getElem_toArray, List.getElem_cons_succ, List.getElem_cons_zero, List.setIfInBounds_toArray, List.set_cons_zero, List.set_cons_succ])
          refine kb_box K1.out 44 (.tmp 2) (vcA t) rfl rfl (by rfl) ?_
          intro b2 w2 hb2 hk
          have K2 := Lib.hid (show Kb w [(b1, #[.bool true, .bool true, .int .u64 (x.v.r : Nat), .int .u32 (x.v.c : Nat), .int .u64 (x.v.b : Nat), .int .u16 (x.v.p : Nat), .int .u32 (x.c : Nat), .int .u16 (x.i : Nat)], 47), (b2, vcA t, 44)] w2 from hk)
          clear hk hb2
          (try simp only [Act.put, List.getElem_toArray, List.getElem_cons_succ, List.getElem_cons_zero, List.setIfInBounds_toArray, List.set_cons_zero, List.set_cons_succ])
          refine wpList_val (.int .i64 0) (by rfl) (by go_simp) ?_
          (try simp only [Act.put, List.getElem_toArray, List.getElem_cons_succ, List.getElem_cons_zero, List.setIfInBounds_toArray, List.set_cons_zero, List.set_cons_succ])
          refine wpList_nil ?_
          go_upto_region 1 with fail
          refine wp_region_lit ?_
          refine wpList_val (.pointer (some ⟨b1, 0, none⟩)) (by rfl) (by go_simp) ?_
          (try simp only [Act.put, List.getElem_toArray, List.getElem_cons_succ, List.getElem_cons_zero, List.setIfInBounds_toArray, List.set_cons_zero, List.set_cons_succ])
          refine wpList_val (.bool true) (by rfl) (by have q : w2.cell? ⟨b1, 0, none⟩ = some (.bool true) := K2.out.cell (i := 0) rfl (by rfl); go_simp) ?_
          (try simp only [Act.put, List.getElem_toArray, List.getElem_cons_succ, List.getElem_cons_zero, List.setIfInBounds_toArray, List.set_cons_zero, List.set_cons_succ])
          refine wpList_val (.bool false) (by rfl) (by go_simp) ?_
          (try simp only [Act.put, List.getElem_toArray, List.getElem_cons_succ, List.getElem_cons_zero, List.setIfInBounds_toArray, List.set_cons_zero, List.set_cons_succ])
          refine wpList_val (.bool false) (by rfl) (by go_simp) ?_
          (try simp only [Act.put, List.getElem_toArray, List.getElem_cons_succ, List.getElem_cons_zero, List.setIfInBounds_toArray, List.set_cons_zero, List.set_cons_succ])
          refine wpList_nil ?_
          go_upto_region 3 with fail
          refine wp_region_lit ?_
          refine wpList_val (.pointer (some ⟨b1, 1, none⟩)) (by rfl) (by go_simp) ?_
          (try simp only [Act.put, List.getElem_toArray, List.getElem_cons_succ, List.getElem_cons_zero, List.setIfInBounds_toArray, List.set_cons_zero, List.set_cons_succ])
          refine wpList_val (.bool true) (by rfl) (by have q : w2.cell? ⟨b1, 1, none⟩ = some (.bool true) := K2.out.cell (i := 0) rfl (by rfl); go_simp) ?_
          (try simp only [Act.put, List.getElem_toArray, List.getElem_cons_succ, List.getElem_cons_zero, List.setIfInBounds_toArray, List.set_cons_zero, List.set_cons_succ])
          refine wpList_val (.bool false) (by rfl) (by go_simp) ?_
          (try simp only [Act.put, List.getElem_toArray, List.getElem_cons_succ, List.getElem_cons_zero, List.setIfInBounds_toArray, List.set_cons_zero, List.set_cons_succ])
          refine wpList_val (.bool false) (by rfl) (by go_simp) ?_
          (try simp only [Act.put, List.getElem_toArray, List.getElem_cons_succ, List.getElem_cons_zero, List.setIfInBounds_toArray, List.set_cons_zero, List.set_cons_succ])
          refine wpList_val (.pointer (some ⟨b1, 2, none⟩)) (by rfl) (by go_simp) ?_
          (try simp only [Act.put, List.getElem_toArray, List.getElem_cons_succ, List.getElem_cons_zero, List.setIfInBounds_toArray, List.set_cons_zero, List.set_cons_succ])
          refine wpList_val (.agg (#[.int .u64 (x.v.r : Nat), .int .u32 (x.v.c : Nat), .int .u64 (x.v.b : Nat), .int .u16 (x.v.p : Nat)])) (by rfl) (kb_part K2.out 0 rfl 44 _ 2 (#[.int .u64 (x.v.r : Nat), .int .u32 (x.v.c : Nat), .int .u64 (x.v.b : Nat), .int .u16 (x.v.p : Nat)]).toList rfl rfl (part_of (by kernel_rfl)) Try.underlying44 rfl (sizeV)) ?_
          (try simp only [Act.put, List.getElem_toArray, List.getElem_cons_succ, List.getElem_cons_zero, List.setIfInBounds_toArray, List.set_cons_zero, List.set_cons_succ])
          refine wpList_val (.agg (vcA t)) (by rfl) (kb_all K2.out 1 rfl 44 _ rfl rfl Try.underlying44 rfl (sizeV)) ?_
          (try simp only [Act.put, List.getElem_toArray, List.getElem_cons_succ, List.getElem_cons_zero, List.setIfInBounds_toArray, List.set_cons_zero, List.set_cons_succ])
          refine kb_call K2.out 13 #[.agg (#[.int .u64 (x.v.r : Nat), .int .u32 (x.v.c : Nat), .int .u64 (x.v.b : Nat), .int .u16 (x.v.p : Nat)]), .agg (vcA t)] (.bool true) (by rfl) (by go_simp) (by have q := CB.out w2; rw [hl] at q; exact q) ?_
          intro w3 hk
          have K3 := Lib.hid (show Kb w [(b1, #[.bool true, .bool true, .int .u64 (x.v.r : Nat), .int .u32 (x.v.c : Nat), .int .u64 (x.v.b : Nat), .int .u16 (x.v.p : Nat), .int .u32 (x.c : Nat), .int .u16 (x.i : Nat)], 47), (b2, vcA t, 44)] w3 from hk)
          clear hk
          (try simp only [Act.put, List.getElem_toArray, List.getElem_cons_succ, List.getElem_cons_zero, List.setIfInBounds_toArray, List.set_cons_zero, List.set_cons_succ])
          refine wpList_val (.bool false) (by rfl) (by go_simp) ?_
          (try simp only [Act.put, List.getElem_toArray, List.getElem_cons_succ, List.getElem_cons_zero, List.setIfInBounds_toArray, List.set_cons_zero, List.set_cons_succ])
          refine wpList_val (.bool false) (by rfl) (run_pick_no (.tmp 15) (.const (.bool true)) (.tmp 20) _ rfl rfl rfl) ?_
          (try simp only [Act.put, List.getElem_toArray, List.getElem_cons_succ, List.getElem_cons_zero, List.setIfInBounds_toArray, List.set_cons_zero, List.set_cons_succ])
          refine wpList_val (.bool false) (by rfl) (by go_simp) ?_
          (try simp only [Act.put, List.getElem_toArray, List.getElem_cons_succ, List.getElem_cons_zero, List.setIfInBounds_toArray, List.set_cons_zero, List.set_cons_succ])
          refine wpList_nil ?_
          go_upto_region 5 with fail
          refine wp_region_lit ?_
          refine wpList_val (.pointer (some ⟨b1, 2, none⟩)) (by rfl) (by go_simp) ?_
          (try simp only [Act.put, List.getElem_toArray, List.getElem_cons_succ, List.getElem_cons_zero, List.setIfInBounds_toArray, List.set_cons_zero, List.set_cons_succ])
          refine wpList_val (.pointer (some ⟨b1, 4, none⟩)) (by rfl) (by go_simp) ?_
          (try simp only [Act.put, List.getElem_toArray, List.getElem_cons_succ, List.getElem_cons_zero, List.setIfInBounds_toArray, List.set_cons_zero, List.set_cons_succ])
          refine wpList_val (.int .u64 (x.v.b : Nat)) (by rfl) (by have q : w3.cell? ⟨b1, 4, none⟩ = some (.int .u64 (x.v.b : Nat)) := K3.out.cell (i := 0) rfl (by rfl); go_simp) ?_
          (try simp only [Act.put, List.getElem_toArray, List.getElem_cons_succ, List.getElem_cons_zero, List.setIfInBounds_toArray, List.set_cons_zero, List.set_cons_succ])
          refine wpList_val (.int .u64 (self : Nat)) (by rfl) (by go_simp) ?_
          (try simp only [Act.put, List.getElem_toArray, List.getElem_cons_succ, List.getElem_cons_zero, List.setIfInBounds_toArray, List.set_cons_zero, List.set_cons_succ])
          refine wpList_val (.bool true) (by rfl) (by have q := hbi; go_simp) ?_
          (try simp only [Act.put, List.getElem_toArray, List.getElem_cons_succ, List.getElem_cons_zero, List.setIfInBounds_toArray, List.set_cons_zero, List.set_cons_succ])
          refine wpList_val (.bool true) (by rfl) (by go_simp) ?_
          (try simp only [Act.put, List.getElem_toArray, List.getElem_cons_succ, List.getElem_cons_zero, List.setIfInBounds_toArray, List.set_cons_zero, List.set_cons_succ])
          refine wpList_nil ?_
          go_upto_region 6 with fail
          refine wp_region_lit ?_
          refine wpList_val (.int .i64 2) (by rfl) (by go_simp) ?_
          (try simp only [Act.put, List.getElem_toArray, List.getElem_cons_succ, List.getElem_cons_zero, List.setIfInBounds_toArray, List.set_cons_zero, List.set_cons_succ])
          refine wpList_nil ?_
          go_wp2_with fail
          go_ret
          exact ⟨rfl, K3.out.below⟩
        case neg =>
          have hbi : ¬ (x.v.b : Int) = (self : Int) := by omega
          have EA : rpA x = #[.bool true, .bool true, .int .u64 (x.v.r : Nat), .int .u32 (x.v.c : Nat), .int .u64 (x.v.b : Nat), .int .u16 (x.v.p : Nat), .int .u32 (x.c : Nat), .int .u16 (x.i : Nat)] := by unfold rpA; rw [← HO.out, ← HH.out]
          have HW : roleN self t x = 1 := by unfold roleN; rw [← HO.out, ← HH.out]; simp [hl, hb]
          rw [HW, EA]
          clear HW EA
          have K := Lib.hid (Kb.nil w)
          go_enter Try.func22, Try.ntmps22
          go_upto_region 0 with fail
          refine wp_region_lit ?_
          refine kb_box K.out 47 (.tmp 0) (#[.bool true, .bool true, .int .u64 (x.v.r : Nat), .int .u32 (x.v.c : Nat), .int .u64 (x.v.b : Nat), .int .u16 (x.v.p : Nat), .int .u32 (x.c : Nat), .int .u16 (x.i : Nat)]) rfl rfl (by rfl) ?_
          intro b1 w1 hb1 hk
          have K1 := Lib.hid (show Kb w [(b1, #[.bool true, .bool true, .int .u64 (x.v.r : Nat), .int .u32 (x.v.c : Nat), .int .u64 (x.v.b : Nat), .int .u16 (x.v.p : Nat), .int .u32 (x.c : Nat), .int .u16 (x.i : Nat)], 47)] w1 from hk)
          clear hk hb1
          (try simp only [Act.put, List.getElem_toArray, List.getElem_cons_succ, List.getElem_cons_zero, List.setIfInBounds_toArray, List.set_cons_zero, List.set_cons_succ])
          refine kb_box K1.out 44 (.tmp 2) (vcA t) rfl rfl (by rfl) ?_
          intro b2 w2 hb2 hk
          have K2 := Lib.hid (show Kb w [(b1, #[.bool true, .bool true, .int .u64 (x.v.r : Nat), .int .u32 (x.v.c : Nat), .int .u64 (x.v.b : Nat), .int .u16 (x.v.p : Nat), .int .u32 (x.c : Nat), .int .u16 (x.i : Nat)], 47), (b2, vcA t, 44)] w2 from hk)
          clear hk hb2
          (try simp only [Act.put, List.getElem_toArray, List.getElem_cons_succ, List.getElem_cons_zero, List.setIfInBounds_toArray, List.set_cons_zero, List.set_cons_succ])
          refine wpList_val (.int .i64 0) (by rfl) (by go_simp) ?_
          (try simp only [Act.put, List.getElem_toArray, List.getElem_cons_succ, List.getElem_cons_zero, List.setIfInBounds_toArray, List.set_cons_zero, List.set_cons_succ])
          refine wpList_nil ?_
          go_upto_region 1 with fail
          refine wp_region_lit ?_
          refine wpList_val (.pointer (some ⟨b1, 0, none⟩)) (by rfl) (by go_simp) ?_
          (try simp only [Act.put, List.getElem_toArray, List.getElem_cons_succ, List.getElem_cons_zero, List.setIfInBounds_toArray, List.set_cons_zero, List.set_cons_succ])
          refine wpList_val (.bool true) (by rfl) (by have q : w2.cell? ⟨b1, 0, none⟩ = some (.bool true) := K2.out.cell (i := 0) rfl (by rfl); go_simp) ?_
          (try simp only [Act.put, List.getElem_toArray, List.getElem_cons_succ, List.getElem_cons_zero, List.setIfInBounds_toArray, List.set_cons_zero, List.set_cons_succ])
          refine wpList_val (.bool false) (by rfl) (by go_simp) ?_
          (try simp only [Act.put, List.getElem_toArray, List.getElem_cons_succ, List.getElem_cons_zero, List.setIfInBounds_toArray, List.set_cons_zero, List.set_cons_succ])
          refine wpList_val (.bool false) (by rfl) (by go_simp) ?_
          (try simp only [Act.put, List.getElem_toArray, List.getElem_cons_succ, List.getElem_cons_zero, List.setIfInBounds_toArray, List.set_cons_zero, List.set_cons_succ])
          refine wpList_nil ?_
          go_upto_region 3 with fail
          refine wp_region_lit ?_
          refine wpList_val (.pointer (some ⟨b1, 1, none⟩)) (by rfl) (by go_simp) ?_
          (try simp only [Act.put, List.getElem_toArray, List.getElem_cons_succ, List.getElem_cons_zero, List.setIfInBounds_toArray, List.set_cons_zero, List.set_cons_succ])
          refine wpList_val (.bool true) (by rfl) (by have q : w2.cell? ⟨b1, 1, none⟩ = some (.bool true) := K2.out.cell (i := 0) rfl (by rfl); go_simp) ?_
          (try simp only [Act.put, List.getElem_toArray, List.getElem_cons_succ, List.getElem_cons_zero, List.setIfInBounds_toArray, List.set_cons_zero, List.set_cons_succ])
          refine wpList_val (.bool false) (by rfl) (by go_simp) ?_
          (try simp only [Act.put, List.getElem_toArray, List.getElem_cons_succ, List.getElem_cons_zero, List.setIfInBounds_toArray, List.set_cons_zero, List.set_cons_succ])
          refine wpList_val (.bool false) (by rfl) (by go_simp) ?_
          (try simp only [Act.put, List.getElem_toArray, List.getElem_cons_succ, List.getElem_cons_zero, List.setIfInBounds_toArray, List.set_cons_zero, List.set_cons_succ])
          refine wpList_val (.pointer (some ⟨b1, 2, none⟩)) (by rfl) (by go_simp) ?_
          (try simp only [Act.put, List.getElem_toArray, List.getElem_cons_succ, List.getElem_cons_zero, List.setIfInBounds_toArray, List.set_cons_zero, List.set_cons_succ])
          refine wpList_val (.agg (#[.int .u64 (x.v.r : Nat), .int .u32 (x.v.c : Nat), .int .u64 (x.v.b : Nat), .int .u16 (x.v.p : Nat)])) (by rfl) (kb_part K2.out 0 rfl 44 _ 2 (#[.int .u64 (x.v.r : Nat), .int .u32 (x.v.c : Nat), .int .u64 (x.v.b : Nat), .int .u16 (x.v.p : Nat)]).toList rfl rfl (part_of (by kernel_rfl)) Try.underlying44 rfl (sizeV)) ?_
          (try simp only [Act.put, List.getElem_toArray, List.getElem_cons_succ, List.getElem_cons_zero, List.setIfInBounds_toArray, List.set_cons_zero, List.set_cons_succ])
          refine wpList_val (.agg (vcA t)) (by rfl) (kb_all K2.out 1 rfl 44 _ rfl rfl Try.underlying44 rfl (sizeV)) ?_
          (try simp only [Act.put, List.getElem_toArray, List.getElem_cons_succ, List.getElem_cons_zero, List.setIfInBounds_toArray, List.set_cons_zero, List.set_cons_succ])
          refine kb_call K2.out 13 #[.agg (#[.int .u64 (x.v.r : Nat), .int .u32 (x.v.c : Nat), .int .u64 (x.v.b : Nat), .int .u16 (x.v.p : Nat)]), .agg (vcA t)] (.bool true) (by rfl) (by go_simp) (by have q := CB.out w2; rw [hl] at q; exact q) ?_
          intro w3 hk
          have K3 := Lib.hid (show Kb w [(b1, #[.bool true, .bool true, .int .u64 (x.v.r : Nat), .int .u32 (x.v.c : Nat), .int .u64 (x.v.b : Nat), .int .u16 (x.v.p : Nat), .int .u32 (x.c : Nat), .int .u16 (x.i : Nat)], 47), (b2, vcA t, 44)] w3 from hk)
          clear hk
          (try simp only [Act.put, List.getElem_toArray, List.getElem_cons_succ, List.getElem_cons_zero, List.setIfInBounds_toArray, List.set_cons_zero, List.set_cons_succ])
          refine wpList_val (.bool false) (by rfl) (by go_simp) ?_
          (try simp only [Act.put, List.getElem_toArray, List.getElem_cons_succ, List.getElem_cons_zero, List.setIfInBounds_toArray, List.set_cons_zero, List.set_cons_succ])
          refine wpList_val (.bool false) (by rfl) (run_pick_no (.tmp 15) (.const (.bool true)) (.tmp 20) _ rfl rfl rfl) ?_
          (try simp only [Act.put, List.getElem_toArray, List.getElem_cons_succ, List.getElem_cons_zero, List.setIfInBounds_toArray, List.set_cons_zero, List.set_cons_succ])
          refine wpList_val (.bool false) (by rfl) (by go_simp) ?_
          (try simp only [Act.put, List.getElem_toArray, List.getElem_cons_succ, List.getElem_cons_zero, List.setIfInBounds_toArray, List.set_cons_zero, List.set_cons_succ])
          refine wpList_nil ?_
          go_upto_region 5 with fail
          refine wp_region_lit ?_
          refine wpList_val (.pointer (some ⟨b1, 2, none⟩)) (by rfl) (by go_simp) ?_
          (try simp only [Act.put, List.getElem_toArray, List.getElem_cons_succ, List.getElem_cons_zero, List.setIfInBounds_toArray, List.set_cons_zero, List.set_cons_succ])
          refine wpList_val (.pointer (some ⟨b1, 4, none⟩)) (by rfl) (by go_simp) ?_
          (try simp only [Act.put, List.getElem_toArray, List.getElem_cons_succ, List.getElem_cons_zero, List.setIfInBounds_toArray, List.set_cons_zero, List.set_cons_succ])
          refine wpList_val (.int .u64 (x.v.b : Nat)) (by rfl) (by have q : w3.cell? ⟨b1, 4, none⟩ = some (.int .u64 (x.v.b : Nat)) := K3.out.cell (i := 0) rfl (by rfl); go_simp) ?_
          (try simp only [Act.put, List.getElem_toArray, List.getElem_cons_succ, List.getElem_cons_zero, List.setIfInBounds_toArray, List.set_cons_zero, List.set_cons_succ])
          refine wpList_val (.int .u64 (self : Nat)) (by rfl) (by go_simp) ?_
          (try simp only [Act.put, List.getElem_toArray, List.getElem_cons_succ, List.getElem_cons_zero, List.setIfInBounds_toArray, List.set_cons_zero, List.set_cons_succ])
          refine wpList_val (.bool false) (by rfl) (by have q := hbi; go_simp) ?_
          (try simp only [Act.put, List.getElem_toArray, List.getElem_cons_succ, List.getElem_cons_zero, List.setIfInBounds_toArray, List.set_cons_zero, List.set_cons_succ])
          refine wpList_val (.bool false) (by rfl) (by go_simp) ?_
          (try simp only [Act.put, List.getElem_toArray, List.getElem_cons_succ, List.getElem_cons_zero, List.setIfInBounds_toArray, List.set_cons_zero, List.set_cons_succ])
          refine wpList_nil ?_
          go_upto_region 7 with fail
          refine wp_region_lit ?_
          refine wpList_val (.int .i64 1) (by rfl) (by go_simp) ?_
          (try simp only [Act.put, List.getElem_toArray, List.getElem_cons_succ, List.getElem_cons_zero, List.setIfInBounds_toArray, List.set_cons_zero, List.set_cons_succ])
          refine wpList_nil ?_
          go_wp2_with fail
          go_ret
          exact ⟨rfl, K3.out.below⟩
end Go.Proofs.Ytojijeaofkndpaa
