/- InfoLives. -/
import Derived.Test.YtojijeaofkndpaaLv7
namespace Go.Proofs.Ytojijeaofkndpaa
open Go.RowKit
attribute [local irreducible] wpQuiet wpList
set_option linter.unusedSimpArgs false
set_option linter.unusedVariables false

/-- The slots, while the region runs. -/
def LvA (y : Vc) (kk : Nat) (a : Option Addr) (n m : Nat) (h tt : Int) (b1 b3 b6 : Nat) (L : Nat → Bool) : Act := { tmps := #[.agg (tvA y), .int .u8 (kk : Nat), .slice a n m, .pointer (some ⟨b1, 0, none⟩), undef, undef, .bool false, .int .i64 h, .pointer (some ⟨b3, 0, none⟩), .pointer (some ⟨b6, 0, none⟩), undef, undef, undef, undef, undef, undef, .bool true, .bool false, .int .u8 (kk : Nat), .int .i64 (kk : Nat), .int .i64 (Int.tmod (kk : Nat) 10), .int .i64 h, .int .i64 h, .agg (cfA ⟨0, 9, h, 3, 0, 0⟩), .agg (poA ⟨0, 0, false, 0, 0, false, false, false, false, false, 0, 0, 0, 0, 0, 0, 0, 0, 0, 0, 0⟩), .agg (cfA ⟨0, 9, h, 3, 0, 0⟩), .agg (poA ⟨0, 0, false, 0, 0, false, true, true, true, false, 0, 0, 0, 0, 0, 0, 0, 0, 0, 3, 0⟩), bif L 5 then .tuple #[.agg (poA ⟨0, 0, false, 0, 0, false, true, true, true, false, 0, 0, 2, (y.r : Nat), (y.c : Nat), (y.b : Nat), (y.p : Nat), 0, tt, 3, 0⟩), .int .i64 3] else undef, bif L 0 then .agg (poA ⟨0, 0, false, 0, 0, false, true, true, true, false, 0, 0, 0, 0, 0, 0, 0, 0, 0, 3, 0⟩) else undef, bif L 1 then .agg (tvA y) else undef, bif L 2 then .agg (vcA y) else undef, bif L 3 then .agg (cfA ⟨0, 9, h, 3, 0, 0⟩) else undef, bif L 4 then .tuple #[.agg (poA ⟨0, 0, false, 0, 0, false, true, true, true, false, 0, 0, 2, (y.r : Nat), (y.c : Nat), (y.b : Nat), (y.p : Nat), 0, tt, 3, 0⟩), .int .i64 3] else undef, bif L 6 then .agg (poA ⟨0, 0, false, 0, 0, false, true, true, true, false, 0, 0, 2, (y.r : Nat), (y.c : Nat), (y.b : Nat), (y.p : Nat), 0, tt, 3, 0⟩) else undef, bif L 7 then .int .i64 3 else undef, undef, undef, undef, undef, undef, undef, undef, undef, undef, undef, undef, undef, undef, undef, undef, undef, undef, undef, undef, undef, undef, undef, undef, undef, undef, undef, undef, undef, undef, undef, undef, undef, undef, undef, undef, undef, undef, undef, undef, undef, undef, undef, undef, undef, undef, undef, undef, undef, undef, undef, undef, undef, undef, undef, undef, undef, undef, undef, undef, undef, undef, undef, undef, undef], defers := [] }
set_option maxRecDepth 100000 in
set_option maxHeartbeats 8000000 in
theorem lives_law (y : Vc) (kk : Nat) (hkk : kk < 256) (a : Option Addr) (n m : Nat) (zs : List Int) (w : World) (hrow : IsRow .u8 w a n m zs) : Calls Try.prog 8 #[.agg (tvA y), .int .u8 (kk : Nat), .slice a n m] w fun e w' => e = .returned (.bool true) ∧ Below w.heap.size w w' := by
  obtain ⟨h, hh⟩ : ∃ h, h = IntKind.i64.wrap (1 + Int.tmod (kk : Nat) 10) := ⟨_, rfl⟩
  have hb : 1 ≤ h ∧ h ≤ 10 := by
    have e : Int.tmod (kk : Nat) 10 = ((kk % 10 : Nat) : Int) := rfl
    rw [hh, e, wrap_i64 (by omega) (by omega)]
    omega
  obtain ⟨tt, htt⟩ : ∃ t, t = 3 * h := ⟨_, rfl⟩
  have HW := Lib.hid (show IntKind.i64.wrap (3 * h) = tt by rw [htt]; exact wrap_i64 (by omega) (by omega))
  have HT := Lib.hid (show 3 ≤ tt ∧ tt ≤ 30 by omega)
  have HH := Lib.hid hh
  have HR := Lib.hid hrow
  have HN := Lib.hid (row_le hrow)
  clear hh hb htt hrow
  have hk : (kk : Int) < 256 := by omega
  have K := Lib.hid (Kb.nil w)
  go_enter Try.func8, Try.ntmps8
  go_upto_region 0 with fail
  refine wp_region_lit ?_
  refine kb_box K.out 52 (.tmp 0) (tvA y) rfl rfl (by rfl) ?_
  intro b1 w1 hb1 hk
  have K1 := Lib.hid (show Kb w [(b1, tvA y, 52)] w1 from hk)
  clear hk hb1
  (try simp only [Act.put, List.getElem_toArray, List.getElem_cons_succ, List.getElem_cons_zero, List.setIfInBounds_toArray, List.set_cons_zero, List.set_cons_succ])
  refine wpList_val (.bool false) (by rfl) (by go_simp) ?_
  (try simp only [Act.put, List.getElem_toArray, List.getElem_cons_succ, List.getElem_cons_zero, List.setIfInBounds_toArray, List.set_cons_zero, List.set_cons_succ])
  refine wpList_nil ?_
  go_upto_region 1 with fail
  refine wp_region_lit ?_
  refine kb_call K1.out 14 #[] (.bool true) (by rfl) (by go_simp) (ispeaks_any w1) ?_
  intro w2 hk
  have K2 := Lib.hid (show Kb w [(b1, tvA y, 52)] w2 from hk)
  clear hk
  (try simp only [Act.put, List.getElem_toArray, List.getElem_cons_succ, List.getElem_cons_zero, List.setIfInBounds_toArray, List.set_cons_zero, List.set_cons_succ])
  refine wpList_val (.bool false) (by rfl) (by go_simp) ?_
  (try simp only [Act.put, List.getElem_toArray, List.getElem_cons_succ, List.getElem_cons_zero, List.setIfInBounds_toArray, List.set_cons_zero, List.set_cons_succ])
  refine wpList_nil ?_
  go_upto_region 3 with fail
  refine wp_region_lit ?_
  refine wpList_val (.int .u8 (kk : Nat)) (by rfl) (by go_simp) ?_
  (try simp only [Act.put, List.getElem_toArray, List.getElem_cons_succ, List.getElem_cons_zero, List.setIfInBounds_toArray, List.set_cons_zero, List.set_cons_succ])
  refine wpList_val (.int .i64 (kk : Nat)) (by rfl) (by go_simp; exact wrap_i64 (by omega) (by omega)) ?_
  (try simp only [Act.put, List.getElem_toArray, List.getElem_cons_succ, List.getElem_cons_zero, List.setIfInBounds_toArray, List.set_cons_zero, List.set_cons_succ])
  refine wpList_val (.int .i64 (Int.tmod (kk : Nat) 10)) (by rfl) (by go_simp) ?_
  (try simp only [Act.put, List.getElem_toArray, List.getElem_cons_succ, List.getElem_cons_zero, List.setIfInBounds_toArray, List.set_cons_zero, List.set_cons_succ])
  refine wpList_val (.int .i64 h) (by rfl) (by rw [HH.out]; go_simp) ?_
  (try simp only [Act.put, List.getElem_toArray, List.getElem_cons_succ, List.getElem_cons_zero, List.setIfInBounds_toArray, List.set_cons_zero, List.set_cons_succ])
  refine wpList_val (.int .i64 h) (by rfl) (by go_simp) ?_
  (try simp only [Act.put, List.getElem_toArray, List.getElem_cons_succ, List.getElem_cons_zero, List.setIfInBounds_toArray, List.set_cons_zero, List.set_cons_succ])
  refine wpList_nil ?_
  clear hk
  go_upto_region 4 with fail
  refine wp_region_lit ?_
  refine wpList_val (.int .i64 h) (by rfl) (by go_simp) ?_
  (try simp only [Act.put, List.getElem_toArray, List.getElem_cons_succ, List.getElem_cons_zero, List.setIfInBounds_toArray, List.set_cons_zero, List.set_cons_succ])
  refine wpList_val (.agg (cfA ⟨0, 9, h, 3, 0, 0⟩)) (by rfl) (run_build_of 58 [(1, .const (.int .i64 9)), (2, .tmp 22), (3, .const (.int .i64 3))] rfl _ (cfA ⟨0, 9, h, 3, 0, 0⟩) rfl (by kernel_rfl)) ?_
  (try simp only [Act.put, List.getElem_toArray, List.getElem_cons_succ, List.getElem_cons_zero, List.setIfInBounds_toArray, List.set_cons_zero, List.set_cons_succ])
  refine kb_alloc K2.out 58 (nil6) rfl zC (by rfl) ?_
  intro b3 w3 hb3 hk
  have K3 := Lib.hid (show Kb w [(b1, tvA y, 52), (b3, nil6, 58)] w3 from hk)
  clear hk hb3
  (try simp only [Act.put, List.getElem_toArray, List.getElem_cons_succ, List.getElem_cons_zero, List.setIfInBounds_toArray, List.set_cons_zero, List.set_cons_succ])
  refine kb_row K3.out 1 rfl 58 _ _ (cfA ⟨0, 9, h, 3, 0, 0⟩) rfl rfl rfl rfl (size34) (by rfl) (by kernel_rfl) ?_
  intro w4 hk
  have K4 := Lib.hid (show Kb w [(b1, tvA y, 52), (b3, cfA ⟨0, 9, h, 3, 0, 0⟩, 58)] w4 from hk)
  clear hk
  (try simp only [Act.put, List.getElem_toArray, List.getElem_cons_succ, List.getElem_cons_zero, List.setIfInBounds_toArray, List.set_cons_zero, List.set_cons_succ])
  refine wpList_nil ?_
  go_upto_region 5 with fail
  refine wp_region_lit ?_
  refine wpList_val (.agg (poA ⟨0, 0, false, 0, 0, false, false, false, false, false, 0, 0, 0, 0, 0, 0, 0, 0, 0, 0, 0⟩)) (by rfl) (run_build_of 62 [] rfl [] (poA ⟨0, 0, false, 0, 0, false, false, false, false, false, 0, 0, 0, 0, 0, 0, 0, 0, 0, 0, 0⟩) rfl (by kernel_rfl)) ?_
  (try simp only [Act.put, List.getElem_toArray, List.getElem_cons_succ, List.getElem_cons_zero, List.setIfInBounds_toArray, List.set_cons_zero, List.set_cons_succ])
  refine wpList_val (.agg (cfA ⟨0, 9, h, 3, 0, 0⟩)) (by rfl) (kb_all K4.out 1 rfl 58 _ rfl rfl Try.underlying58 rfl (size34)) ?_
  (try simp only [Act.put, List.getElem_toArray, List.getElem_cons_succ, List.getElem_cons_zero, List.setIfInBounds_toArray, List.set_cons_zero, List.set_cons_succ])
  refine kb_call K4.out 19 #[.agg (poA ⟨0, 0, false, 0, 0, false, false, false, false, false, 0, 0, 0, 0, 0, 0, 0, 0, 0, 0, 0⟩), .bool true, .bool true, .agg (cfA ⟨0, 9, h, 3, 0, 0⟩)] (.agg (poA ⟨0, 0, false, 0, 0, false, true, true, true, false, 0, 0, 0, 0, 0, 0, 0, 0, 0, 3, 0⟩)) (by rfl) (by go_simp) (switch_is ⟨0, 0, false, 0, 0, false, false, false, false, false, 0, 0, 0, 0, 0, 0, 0, 0, 0, 0, 0⟩ true true ⟨0, 9, h, 3, 0, 0⟩ ⟨0, 0, false, 0, 0, false, true, true, true, false, 0, 0, 0, 0, 0, 0, 0, 0, 0, 3, 0⟩ (by kernel_rfl) w4) ?_
  intro w5 hk
  have K5 := Lib.hid (show Kb w [(b1, tvA y, 52), (b3, cfA ⟨0, 9, h, 3, 0, 0⟩, 58)] w5 from hk)
  clear hk
  (try simp only [Act.put, List.getElem_toArray, List.getElem_cons_succ, List.getElem_cons_zero, List.setIfInBounds_toArray, List.set_cons_zero, List.set_cons_succ])
  refine kb_alloc K5.out 62 (nil21) rfl z50 (by rfl) ?_
  intro b6 w6 hb6 hk
  have K6 := Lib.hid (show Kb w [(b1, tvA y, 52), (b3, cfA ⟨0, 9, h, 3, 0, 0⟩, 58), (b6, nil21, 62)] w6 from hk)
  clear hk hb6
  (try simp only [Act.put, List.getElem_toArray, List.getElem_cons_succ, List.getElem_cons_zero, List.setIfInBounds_toArray, List.set_cons_zero, List.set_cons_succ])
  refine kb_row K6.out 2 rfl 62 _ _ (poA ⟨0, 0, false, 0, 0, false, true, true, true, false, 0, 0, 0, 0, 0, 0, 0, 0, 0, 3, 0⟩) rfl rfl rfl rfl (size50) (by rfl) (po_all _) ?_
  intro w7 hk
  have K7 := Lib.hid (show Kb w [(b1, tvA y, 52), (b3, cfA ⟨0, 9, h, 3, 0, 0⟩, 58), (b6, poA ⟨0, 0, false, 0, 0, false, true, true, true, false, 0, 0, 0, 0, 0, 0, 0, 0, 0, 3, 0⟩, 62)] w7 from hk)
  clear hk
  (try simp only [Act.put, List.getElem_toArray, List.getElem_cons_succ, List.getElem_cons_zero, List.setIfInBounds_toArray, List.set_cons_zero, List.set_cons_succ])
  refine wpList_nil ?_
  go_upto_region 6 with fail
  rename_i KX hKX
  have HKX := Lib.hid hKX
  clear hKX
  refine wp_region_inv_dc (I := fun L ac w' => ac = LvA y kk a n m h tt b1 b3 b6 L ∧ Kb w [(b1, tvA y, 52), (b3, cfA ⟨0, 9, h, 3, 0, 0⟩, 58), (b6, bif L 8 then poA ⟨0, 0, false, 0, 0, false, true, true, true, false, 0, 0, 2, (y.r : Nat), (y.c : Nat), (y.b : Nat), (y.p : Nat), 0, tt, 3, 0⟩ else poA ⟨0, 0, false, 0, 0, false, true, true, true, false, 0, 0, 0, 0, 0, 0, 0, 0, 0, 3, 0⟩, 62)] w') (by kernel_rfl) (by kernel_rfl) ⟨by kernel_rfl, K7.out.drew⟩ ?_ ?_
  · intro i hi Lx ac w' hI hL haft hdc
    obtain ⟨rfl, hw⟩ := hI
    match i, hi with
    | 0, _ =>
      have g9 : (LvA y kk a n m h tt b1 b3 b6 Lx).tmps[9]?.getD undef = .pointer (some ⟨b6, 0, none⟩) := by kernel_rfl
      have e9 : (LvA y kk a n m h tt b1 b3 b6 Lx).eval (.tmp 9) = .pointer (some ⟨b6, 0, none⟩) := by kernel_rfl
      have hn8 : Lx 8 = false := by
        cases c : Lx 8 with
        | false => rfl
        | true => exact absurd (hdc 8 c 0 (by decide)) (by rw [hL]; decide)
      have hw0 : Kb w [(b1, tvA y, 52), (b3, cfA ⟨0, 9, h, 3, 0, 0⟩, 58), (b6, poA ⟨0, 0, false, 0, 0, false, true, true, true, false, 0, 0, 0, 0, 0, 0, 0, 0, 0, 3, 0⟩, 62)] w' := by rw [hn8] at hw; exact hw
      exact i_val rfl (.agg (poA ⟨0, 0, false, 0, 0, false, true, true, true, false, 0, 0, 0, 0, 0, 0, 0, 0, 0, 3, 0⟩)) w' (by rfl) (kb_all hw0 2 rfl 62 _ rfl e9 Try.underlying62 rfl (size50)) ⟨by kernel_rfl, hw⟩
    | 1, _ =>
      have g3 : (LvA y kk a n m h tt b1 b3 b6 Lx).tmps[3]?.getD undef = .pointer (some ⟨b1, 0, none⟩) := by kernel_rfl
      have e3 : (LvA y kk a n m h tt b1 b3 b6 Lx).eval (.tmp 3) = .pointer (some ⟨b1, 0, none⟩) := by kernel_rfl
      exact i_val rfl (.agg (tvA y)) w' (by rfl) (kb_all hw 0 rfl 52 _ rfl e3 Try.underlying52 rfl (size52)) ⟨by kernel_rfl, hw⟩
    | 2, _ =>
      have h1 := haft 1 (by decide)
      have e29 : (LvA y kk a n m h tt b1 b3 b6 Lx).eval (.tmp 29) = .agg (tvA y) := by show (bif Lx 1 then _ else _) = _; rw [h1]; rfl
      have g29 : (LvA y kk a n m h tt b1 b3 b6 Lx).tmps[29]?.getD undef = .agg (tvA y) := by show (bif Lx 1 then _ else _) = _; rw [h1]; rfl
      exact i_call rfl (.agg (vcA y)) 16 #[.agg (tvA y)] (fun w2 => Below w'.heap.size w' w2) (by rfl) (by go_simp) (itold_any y w') (fun w2 hb => ⟨by kernel_rfl, hw.next hb⟩)
    | 3, _ =>
      have g8 : (LvA y kk a n m h tt b1 b3 b6 Lx).tmps[8]?.getD undef = .pointer (some ⟨b3, 0, none⟩) := by kernel_rfl
      have e8 : (LvA y kk a n m h tt b1 b3 b6 Lx).eval (.tmp 8) = .pointer (some ⟨b3, 0, none⟩) := by kernel_rfl
      exact i_val rfl (.agg (cfA ⟨0, 9, h, 3, 0, 0⟩)) w' (by rfl) (kb_all hw 1 rfl 58 _ rfl e8 Try.underlying58 rfl (size34)) ⟨by kernel_rfl, hw⟩
    | 4, _ =>
      have h0 := haft 0 (by decide)
      have e28 : (LvA y kk a n m h tt b1 b3 b6 Lx).eval (.tmp 28) = .agg (poA ⟨0, 0, false, 0, 0, false, true, true, true, false, 0, 0, 0, 0, 0, 0, 0, 0, 0, 3, 0⟩) := by show (bif Lx 0 then _ else _) = _; rw [h0]; rfl
      have g28 : (LvA y kk a n m h tt b1 b3 b6 Lx).tmps[28]?.getD undef = .agg (poA ⟨0, 0, false, 0, 0, false, true, true, true, false, 0, 0, 0, 0, 0, 0, 0, 0, 0, 3, 0⟩) := by show (bif Lx 0 then _ else _) = _; rw [h0]; rfl
      have h2 := haft 2 (by decide)
      have e30 : (LvA y kk a n m h tt b1 b3 b6 Lx).eval (.tmp 30) = .agg (vcA y) := by show (bif Lx 2 then _ else _) = _; rw [h2]; rfl
      have g30 : (LvA y kk a n m h tt b1 b3 b6 Lx).tmps[30]?.getD undef = .agg (vcA y) := by show (bif Lx 2 then _ else _) = _; rw [h2]; rfl
      have h3 := haft 3 (by decide)
      have e31 : (LvA y kk a n m h tt b1 b3 b6 Lx).eval (.tmp 31) = .agg (cfA ⟨0, 9, h, 3, 0, 0⟩) := by show (bif Lx 3 then _ else _) = _; rw [h3]; rfl
      have g31 : (LvA y kk a n m h tt b1 b3 b6 Lx).tmps[31]?.getD undef = .agg (cfA ⟨0, 9, h, 3, 0, 0⟩) := by show (bif Lx 3 then _ else _) = _; rw [h3]; rfl
      exact i_call rfl (.tuple #[.agg (poA ⟨0, 0, false, 0, 0, false, true, true, true, false, 0, 0, 2, (y.r : Nat), (y.c : Nat), (y.b : Nat), (y.p : Nat), 0, tt, 3, 0⟩), .int .i64 3]) 17 #[.agg (poA ⟨0, 0, false, 0, 0, false, true, true, true, false, 0, 0, 0, 0, 0, 0, 0, 0, 0, 3, 0⟩), .agg (vcA y), .int .i64 0, .agg (cfA ⟨0, 9, h, 3, 0, 0⟩)] (fun w2 => Below w'.heap.size w' w2) (by rfl) (by go_simp) (hear_is ⟨0, 0, false, 0, 0, false, true, true, true, false, 0, 0, 0, 0, 0, 0, 0, 0, 0, 3, 0⟩ ⟨0, 0, 0, 0⟩ y ⟨0, 0, false, 0, 0, false, true, true, true, false, 0, 0, 0, 0, 0, 0, 0, 0, 0, 3, 0⟩ 0 ⟨0, 9, h, 3, 0, 0⟩ ⟨0, 0, false, 0, 0, false, true, true, true, false, 0, 0, 2, (y.r : Nat), (y.c : Nat), (y.b : Nat), (y.p : Nat), 0, tt, 3, 0⟩ 3 (by kernel_rfl) (first_p y h tt HW.out) (first_n y h) w') (fun w2 hb => ⟨by kernel_rfl, hw.next hb⟩)
    | 5, _ =>
      have h4 := haft 4 (by decide)
      have e32 : (LvA y kk a n m h tt b1 b3 b6 Lx).eval (.tmp 32) = .tuple #[.agg (poA ⟨0, 0, false, 0, 0, false, true, true, true, false, 0, 0, 2, (y.r : Nat), (y.c : Nat), (y.b : Nat), (y.p : Nat), 0, tt, 3, 0⟩), .int .i64 3] := by show (bif Lx 4 then _ else _) = _; rw [h4]; rfl
      have g32 : (LvA y kk a n m h tt b1 b3 b6 Lx).tmps[32]?.getD undef = .tuple #[.agg (poA ⟨0, 0, false, 0, 0, false, true, true, true, false, 0, 0, 2, (y.r : Nat), (y.c : Nat), (y.b : Nat), (y.p : Nat), 0, tt, 3, 0⟩), .int .i64 3] := by show (bif Lx 4 then _ else _) = _; rw [h4]; rfl
      exact i_val rfl (.tuple #[.agg (poA ⟨0, 0, false, 0, 0, false, true, true, true, false, 0, 0, 2, (y.r : Nat), (y.c : Nat), (y.b : Nat), (y.p : Nat), 0, tt, 3, 0⟩), .int .i64 3]) w' (by rfl) (by go_simp) ⟨by kernel_rfl, hw⟩
    | 6, _ =>
      have h5 := haft 5 (by decide)
      have e27 : (LvA y kk a n m h tt b1 b3 b6 Lx).eval (.tmp 27) = .tuple #[.agg (poA ⟨0, 0, false, 0, 0, false, true, true, true, false, 0, 0, 2, (y.r : Nat), (y.c : Nat), (y.b : Nat), (y.p : Nat), 0, tt, 3, 0⟩), .int .i64 3] := by show (bif Lx 5 then _ else _) = _; rw [h5]; rfl
      have g27 : (LvA y kk a n m h tt b1 b3 b6 Lx).tmps[27]?.getD undef = .tuple #[.agg (poA ⟨0, 0, false, 0, 0, false, true, true, true, false, 0, 0, 2, (y.r : Nat), (y.c : Nat), (y.b : Nat), (y.p : Nat), 0, tt, 3, 0⟩), .int .i64 3] := by show (bif Lx 5 then _ else _) = _; rw [h5]; rfl
      exact i_val rfl (.agg (poA ⟨0, 0, false, 0, 0, false, true, true, true, false, 0, 0, 2, (y.r : Nat), (y.c : Nat), (y.b : Nat), (y.p : Nat), 0, tt, 3, 0⟩)) w' (by rfl) (by go_simp) ⟨by kernel_rfl, hw⟩
    | 7, _ =>
      have h5 := haft 5 (by decide)
      have e27 : (LvA y kk a n m h tt b1 b3 b6 Lx).eval (.tmp 27) = .tuple #[.agg (poA ⟨0, 0, false, 0, 0, false, true, true, true, false, 0, 0, 2, (y.r : Nat), (y.c : Nat), (y.b : Nat), (y.p : Nat), 0, tt, 3, 0⟩), .int .i64 3] := by show (bif Lx 5 then _ else _) = _; rw [h5]; rfl
      have g27 : (LvA y kk a n m h tt b1 b3 b6 Lx).tmps[27]?.getD undef = .tuple #[.agg (poA ⟨0, 0, false, 0, 0, false, true, true, true, false, 0, 0, 2, (y.r : Nat), (y.c : Nat), (y.b : Nat), (y.p : Nat), 0, tt, 3, 0⟩), .int .i64 3] := by show (bif Lx 5 then _ else _) = _; rw [h5]; rfl
      exact i_val rfl (.int .i64 3) w' (by rfl) (by go_simp) ⟨by kernel_rfl, hw⟩
    | 8, _ =>
      have g9 : (LvA y kk a n m h tt b1 b3 b6 Lx).tmps[9]?.getD undef = .pointer (some ⟨b6, 0, none⟩) := by kernel_rfl
      have e9 : (LvA y kk a n m h tt b1 b3 b6 Lx).eval (.tmp 9) = .pointer (some ⟨b6, 0, none⟩) := by kernel_rfl
      have h6 := haft 6 (by decide)
      have e33 : (LvA y kk a n m h tt b1 b3 b6 Lx).eval (.tmp 33) = .agg (poA ⟨0, 0, false, 0, 0, false, true, true, true, false, 0, 0, 2, (y.r : Nat), (y.c : Nat), (y.b : Nat), (y.p : Nat), 0, tt, 3, 0⟩) := by show (bif Lx 6 then _ else _) = _; rw [h6]; rfl
      have g33 : (LvA y kk a n m h tt b1 b3 b6 Lx).tmps[33]?.getD undef = .agg (poA ⟨0, 0, false, 0, 0, false, true, true, true, false, 0, 0, 2, (y.r : Nat), (y.c : Nat), (y.b : Nat), (y.p : Nat), 0, tt, 3, 0⟩) := by show (bif Lx 6 then _ else _) = _; rw [h6]; rfl
      have hw0 : Kb w [(b1, tvA y, 52), (b3, cfA ⟨0, 9, h, 3, 0, 0⟩, 58), (b6, poA ⟨0, 0, false, 0, 0, false, true, true, true, false, 0, 0, 0, 0, 0, 0, 0, 0, 0, 3, 0⟩, 62)] w' := by rw [hL] at hw; exact hw
      exact i_wp rfl (by rfl) (wp_store_row 62 _ _ rfl b6 (poA ⟨0, 0, false, 0, 0, false, true, true, true, false, 0, 0, 2, (y.r : Nat), (y.c : Nat), (y.b : Nat), (y.p : Nat), 0, tt, 3, 0⟩) e9 e33 62 (poA ⟨0, 0, false, 0, 0, false, true, true, true, false, 0, 0, 0, 0, 0, 0, 0, 0, 0, 3, 0⟩) (Kb.at (i := 2) hw0 rfl) (size50) (by rfl) (po_all _) ⟨by kernel_rfl, cast_blk (Kb.row (i := 2) hw0 rfl (poA ⟨0, 0, false, 0, 0, false, true, true, true, false, 0, 0, 2, (y.r : Nat), (y.c : Nat), (y.b : Nat), (y.p : Nat), 0, tt, 3, 0⟩)) (by rfl)⟩)
    | k + 9, h =>
      exfalso
      have h2 : k + 9 < 9 := h
      omega
  intro Lx ac w8 hI hall
  obtain ⟨rfl, hw⟩ := hI
  have hfr : LvA y kk a n m h tt b1 b3 b6 Lx = { tmps := #[.agg (tvA y), .int .u8 (kk : Nat), .slice a n m, .pointer (some ⟨b1, 0, none⟩), undef, undef, .bool false, .int .i64 h, .pointer (some ⟨b3, 0, none⟩), .pointer (some ⟨b6, 0, none⟩), undef, undef, undef, undef, undef, undef, .bool true, .bool false, .int .u8 (kk : Nat), .int .i64 (kk : Nat), .int .i64 (Int.tmod (kk : Nat) 10), .int .i64 h, .int .i64 h, .agg (cfA ⟨0, 9, h, 3, 0, 0⟩), .agg (poA ⟨0, 0, false, 0, 0, false, false, false, false, false, 0, 0, 0, 0, 0, 0, 0, 0, 0, 0, 0⟩), .agg (cfA ⟨0, 9, h, 3, 0, 0⟩), .agg (poA ⟨0, 0, false, 0, 0, false, true, true, true, false, 0, 0, 0, 0, 0, 0, 0, 0, 0, 3, 0⟩), .tuple #[.agg (poA ⟨0, 0, false, 0, 0, false, true, true, true, false, 0, 0, 2, (y.r : Nat), (y.c : Nat), (y.b : Nat), (y.p : Nat), 0, tt, 3, 0⟩), .int .i64 3], .agg (poA ⟨0, 0, false, 0, 0, false, true, true, true, false, 0, 0, 0, 0, 0, 0, 0, 0, 0, 3, 0⟩), .agg (tvA y), .agg (vcA y), .agg (cfA ⟨0, 9, h, 3, 0, 0⟩), .tuple #[.agg (poA ⟨0, 0, false, 0, 0, false, true, true, true, false, 0, 0, 2, (y.r : Nat), (y.c : Nat), (y.b : Nat), (y.p : Nat), 0, tt, 3, 0⟩), .int .i64 3], .agg (poA ⟨0, 0, false, 0, 0, false, true, true, true, false, 0, 0, 2, (y.r : Nat), (y.c : Nat), (y.b : Nat), (y.p : Nat), 0, tt, 3, 0⟩), .int .i64 3, undef, undef, undef, undef, undef, undef, undef, undef, undef, undef, undef, undef, undef, undef, undef, undef, undef, undef, undef, undef, undef, undef, undef, undef, undef, undef, undef, undef, undef, undef, undef, undef, undef, undef, undef, undef, undef, undef, undef, undef, undef, undef, undef, undef, undef, undef, undef, undef, undef, undef, undef, undef, undef, undef, undef, undef, undef, undef, undef, undef, undef, undef, undef, undef], defers := [] } := by unfold LvA; simp only [hall 0 (by decide), hall 1 (by decide), hall 2 (by decide), hall 3 (by decide), hall 4 (by decide), hall 5 (by decide), hall 6 (by decide), hall 7 (by decide), cond_true]
  rw [hfr]
  clear hfr
  have hL8 := hall 8 (by decide)
  simp only [hL8, cond_true] at hw
  have K8 := Lib.hid (show Kb w [(b1, tvA y, 52), (b3, cfA ⟨0, 9, h, 3, 0, 0⟩, 58), (b6, poA ⟨0, 0, false, 0, 0, false, true, true, true, false, 0, 0, 2, (y.r : Nat), (y.c : Nat), (y.b : Nat), (y.p : Nat), 0, tt, 3, 0⟩, 62)] w8 from hw)
  clear hw hall hL8
  exact HKX.out _ _ (lv7 y h tt HW HT b1 b3 b6 a n m zs _ _ _ _ _ _ _ _ _ _ _ _ _ _ _ _ _ _ _ _ _ _ _ _ _ _ _ _ _ _ _ _ _ _ _ _ _ _ _ _ _ _ _ _ _ _ _ _ _ _ _ _ _ _ _ _ _ _ _ _ _ _ _ _ _ _ _ _ _ _ _ _ _ _ _ _ _ _ _ _ _ _ _ _ _ _ _ _ _ _ _ _ _ _ w w8 HR HN K8.out)
end Go.Proofs.Ytojijeaofkndpaa
