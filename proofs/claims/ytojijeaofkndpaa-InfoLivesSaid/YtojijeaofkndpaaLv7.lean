/- InfoLives: the loop. -/
import Derived.Test.YtojijeaofkndpaaLv1
import Derived.Test.YtojijeaofkndpaaOpen
import Derived.Test.YtojijeaofkndpaaLits
namespace Go.Proofs.Ytojijeaofkndpaa
open Go.RowKit
attribute [local irreducible] wpQuiet wpList
set_option linter.unusedSimpArgs false
set_option linter.unusedVariables false

theorem row_le {w : World} {a : Option Addr} {n m : Nat} {zs : List Int} (h : IsRow .u8 w a n m zs) : n ≤ m ∧ m ≤ maxLen := by
  rcases h with ⟨-, rfl, rfl, -⟩ | ⟨x, -, h1, h2, -⟩
  · exact ⟨Nat.le_refl _, Nat.zero_le _⟩
  · exact ⟨h1, h2⟩
theorem row_cell {w : World} {a : Option Addr} {n m : Nat} {zs : List Int} (h : IsRow .u8 w a n m zs) {k : Nat} (hk : k < n) : ∃ (x : Addr) (z : Nat), a = some x ∧ z < 256 ∧ ∀ W, Below w.heap.size w W → W.cell? (x.add k) = some (.int .u8 (z : Nat)) := by
  rcases h with ⟨-, rfl, -, -⟩ | ⟨x, rfl, h1, h2, hl, hc, hwf⟩
  · omega
  · have hkz : k < zs.length := by omega
    have hm := hwf zs[k] (List.getElem_mem hkz)
    obtain ⟨z, hz, hz2⟩ := nat_of_u8 hm
    have c := hc k hkz
    rw [List.getD_eq_getElem?_getD, List.getElem?_eq_getElem hkz, Option.getD_some, hz] at c
    exact ⟨x, z, rfl, hz2, fun W hW => by rw [hW.cell (p := x.add k) (block_lt_of_cell c)]; exact c⟩
/-- The slots, while the region runs. -/
def LvB (y : Vc) (h tt r : Int) (n m k q z : Nat) (x : Addr) (f0 f1 f4 f5 u6 u12 f13 f14 f15 f16 f17 f18 f19 f20 f21 f22 f23 f24 f25 f26 f27 f28 f29 f30 f31 f32 f33 f34 u43 u44 u55 u56 u57 u58 u59 u60 u61 u62 u63 u64 u65 u66 u67 u68 u69 u70 f71 f72 f73 f74 f75 f76 f77 f78 f79 f80 f81 f82 f83 f84 f85 f86 f87 f88 f89 f90 f91 f92 f93 f94 f95 f96 f97 f98 : Value) (lf : Int) (b1 b8 b9 : Nat) (L : Nat → Bool) : Act := { tmps := #[f0, f1, .slice (some x) n m, .pointer (some ⟨b1, 0, none⟩), f4, f5, u6, .int .i64 h, .pointer (some ⟨b8, 0, none⟩), .pointer (some ⟨b9, 0, none⟩), .int .i64 (k : Nat), .int .i64 (q : Nat), u12, f13, f14, f15, f16, f17, f18, f19, f20, f21, f22, f23, f24, f25, f26, f27, f28, f29, f30, f31, f32, f33, f34, .int .i64 (k : Nat), .slice (some x) n m, .int .i64 (n : Nat), .bool true, .bool true, .int .i64 (k : Nat), .bool true, .bool true, u43, u44, .int .i64 (q : Nat), .slice (some x) n m, .int .i64 (k : Nat), .pointer (some (x.add k)), .int .u8 (z : Nat), .int .i64 (z : Nat), .int .i64 h, .int .i64 tt, .int .i64 r, .bool false, u55, u56, u57, u58, u59, u60, u61, u62, bif L 5 then .tuple #[.agg (poA ⟨0, 0, false, 0, 0, false, true, true, true, false, 0, 0, 2, (y.r : Nat), (y.c : Nat), (y.b : Nat), (y.p : Nat), 0, tt, 3, 0⟩), .int .i64 2] else u63, bif L 0 then .agg (poA ⟨0, 0, false, 0, 0, false, true, true, true, false, 0, 0, 2, (y.r : Nat), (y.c : Nat), (y.b : Nat), (y.p : Nat), 0, lf, 3, 0⟩) else u64, bif L 1 then .agg (tvA y) else u65, bif L 2 then .agg (vcA y) else u66, bif L 3 then .agg (cfA ⟨0, 9, h, 3, 0, 0⟩) else u67, bif L 4 then .tuple #[.agg (poA ⟨0, 0, false, 0, 0, false, true, true, true, false, 0, 0, 2, (y.r : Nat), (y.c : Nat), (y.b : Nat), (y.p : Nat), 0, tt, 3, 0⟩), .int .i64 2] else u68, bif L 6 then .agg (poA ⟨0, 0, false, 0, 0, false, true, true, true, false, 0, 0, 2, (y.r : Nat), (y.c : Nat), (y.b : Nat), (y.p : Nat), 0, tt, 3, 0⟩) else u69, bif L 7 then .int .i64 2 else u70, f71, f72, f73, f74, f75, f76, f77, f78, f79, f80, f81, f82, f83, f84, f85, f86, f87, f88, f89, f90, f91, f92, f93, f94, f95, f96, f97, f98], defers := [] }
set_option maxRecDepth 100000 in
set_option maxHeartbeats 8000000 in
theorem lv7 (y : Vc) (h tt : Int) (HW : Hid (IntKind.i64.wrap (3 * h) = tt)) (HT : Hid (3 ≤ tt ∧ tt ≤ 30)) (b1 b8 b9 : Nat) (a : Option Addr) (n m : Nat) (zs : List Int) (f0 f1 f4 f5 f6 f10 f11 f12 f13 f14 f15 f16 f17 f18 f19 f20 f21 f22 f23 f24 f25 f26 f27 f28 f29 f30 f31 f32 f33 f34 f35 f36 f37 f38 f39 f40 f41 f42 f43 f44 f45 f46 f47 f48 f49 f50 f51 f52 f53 f54 f55 f56 f57 f58 f59 f60 f61 f62 f63 f64 f65 f66 f67 f68 f69 f70 f71 f72 f73 f74 f75 f76 f77 f78 f79 f80 f81 f82 f83 f84 f85 f86 f87 f88 f89 f90 f91 f92 f93 f94 f95 f96 f97 f98 : Value) (w wj : World) (HR : Hid (IsRow .u8 w a n m zs)) (HN : Hid (n ≤ m ∧ m ≤ maxLen)) (KC : Kb w [(b1, tvA y, 52), (b8, cfA ⟨0, 9, h, 3, 0, 0⟩, 58), (b9, poA ⟨0, 0, false, 0, 0, false, true, true, true, false, 0, 0, 2, (y.r : Nat), (y.c : Nat), (y.b : Nat), (y.p : Nat), 0, tt, 3, 0⟩, 62)] wj) :
    Code.wp Try.prog (tail8 7) (bodyPost Try.prog Try.f8 fun e w' => e = .returned (.bool true) ∧ Below w.heap.size w w') { tmps := #[f0, f1, .slice a n m, .pointer (some ⟨b1, 0, none⟩), f4, f5, f6, .int .i64 h, .pointer (some ⟨b8, 0, none⟩), .pointer (some ⟨b9, 0, none⟩), f10, f11, f12, f13, f14, f15, f16, f17, f18, f19, f20, f21, f22, f23, f24, f25, f26, f27, f28, f29, f30, f31, f32, f33, f34, f35, f36, f37, f38, f39, f40, f41, f42, f43, f44, f45, f46, f47, f48, f49, f50, f51, f52, f53, f54, f55, f56, f57, f58, f59, f60, f61, f62, f63, f64, f65, f66, f67, f68, f69, f70, f71, f72, f73, f74, f75, f76, f77, f78, f79, f80, f81, f82, f83, f84, f85, f86, f87, f88, f89, f90, f91, f92, f93, f94, f95, f96, f97, f98], defers := [] } wj := by
  have K0 := Lib.hid KC
  have hn9 : (n : Int) ≤ 9223372036854775807 := by have q1 := HN.out.1; have q2 := HN.out.2; unfold maxLen at *; omega
  clear KC
  conv => arg 2; whnf
  conv => arg 4; zeta
  go_upto_region 8 with fail
  rename_i KX hKX
  have HKX := Lib.hid hKX
  clear hKX
  go_loopw [10] (fun i wr => ∃ k : Nat, k ≤ n ∧ i = .int .i64 k ∧ Kb w [(b1, tvA y, 52), (b8, cfA ⟨0, 9, h, 3, 0, 0⟩, 58), (b9, poA ⟨0, 0, false, 0, 0, false, true, true, true, false, 0, 0, 2, (y.r : Nat), (y.c : Nat), (y.b : Nat), (y.p : Nat), 0, tt, 3, 0⟩, 62)] wr) (fun i _ => (n - intOf i).toNat)
  case atStart => exact ⟨0, by omega, rfl, K0.out⟩
  case round =>
    obtain ⟨k, hk, rfl, hK⟩ := hrel
    have K1 := Lib.hid hK
    clear hK
    by_cases hlt : (k : Int) < (n : Int)
    case neg =>
      go_upto_region 8 with fail
      refine wp_region_lit ?_
      refine wpList_val (.int .i64 (k : Nat)) (by rfl) (by go_simp) ?_
      (try simp only [Act.put, List.getElem_toArray, List.getElem_cons_succ, List.getElem_cons_zero, List.setIfInBounds_toArray, List.set_cons_zero, List.set_cons_succ])
      refine wpList_val (.slice a n m) (by rfl) (by go_simp) ?_
      (try simp only [Act.put, List.getElem_toArray, List.getElem_cons_succ, List.getElem_cons_zero, List.setIfInBounds_toArray, List.set_cons_zero, List.set_cons_succ])
      refine wpList_val (.int .i64 (n : Nat)) (by rfl) (by go_simp) ?_
      (try simp only [Act.put, List.getElem_toArray, List.getElem_cons_succ, List.getElem_cons_zero, List.setIfInBounds_toArray, List.set_cons_zero, List.set_cons_succ])
      refine wpList_val (.bool false) (by rfl) (by have q := hlt; go_simp) ?_
      (try simp only [Act.put, List.getElem_toArray, List.getElem_cons_succ, List.getElem_cons_zero, List.setIfInBounds_toArray, List.set_cons_zero, List.set_cons_succ])
      refine wpList_val (.bool false) (by rfl) (by go_simp) ?_
      (try simp only [Act.put, List.getElem_toArray, List.getElem_cons_succ, List.getElem_cons_zero, List.setIfInBounds_toArray, List.set_cons_zero, List.set_cons_succ])
      refine wpList_skip (by kernel_rfl) ?_
      (try simp only [Act.put, List.getElem_toArray, List.getElem_cons_succ, List.getElem_cons_zero, List.setIfInBounds_toArray, List.set_cons_zero, List.set_cons_succ])
      refine wpList_skip (by kernel_rfl) ?_
      (try simp only [Act.put, List.getElem_toArray, List.getElem_cons_succ, List.getElem_cons_zero, List.setIfInBounds_toArray, List.set_cons_zero, List.set_cons_succ])
      refine wpList_val (.bool false) (by rfl) (run_pick_no (.tmp 39) (.tmp 41) (.const (.bool false)) _ rfl rfl rfl) ?_
      (try simp only [Act.put, List.getElem_toArray, List.getElem_cons_succ, List.getElem_cons_zero, List.setIfInBounds_toArray, List.set_cons_zero, List.set_cons_succ])
      refine wpList_nil ?_
      go_wp2_with fail
      exact HKX.out _ _ (lv18 y h tt HW HT b1 b8 b9 _ _ _ _ _ _ _ _ _ _ _ _ _ _ _ _ _ _ _ _ _ _ _ _ _ _ _ _ _ _ _ _ _ _ _ _ _ _ _ _ _ _ _ _ _ _ _ _ _ _ _ _ _ _ _ _ _ _ _ _ _ _ _ _ _ _ _ _ _ _ _ _ _ _ _ _ _ _ _ _ _ _ _ _ _ _ _ _ _ _ _ _ _ _ _ _ _ w wr K1.out)
    case pos =>
      by_cases h10 : (k : Int) < 10
      case neg =>
        go_upto_region 8 with fail
        refine wp_region_lit ?_
        refine wpList_val (.int .i64 (k : Nat)) (by rfl) (by go_simp) ?_
        (try simp only [Act.put, List.getElem_toArray, List.getElem_cons_succ, List.getElem_cons_zero, List.setIfInBounds_toArray, List.set_cons_zero, List.set_cons_succ])
        refine wpList_val (.slice a n m) (by rfl) (by go_simp) ?_
        (try simp only [Act.put, List.getElem_toArray, List.getElem_cons_succ, List.getElem_cons_zero, List.setIfInBounds_toArray, List.set_cons_zero, List.set_cons_succ])
        refine wpList_val (.int .i64 (n : Nat)) (by rfl) (by go_simp) ?_
        (try simp only [Act.put, List.getElem_toArray, List.getElem_cons_succ, List.getElem_cons_zero, List.setIfInBounds_toArray, List.set_cons_zero, List.set_cons_succ])
        refine wpList_val (.bool true) (by rfl) (by have q := hlt; go_simp) ?_
        (try simp only [Act.put, List.getElem_toArray, List.getElem_cons_succ, List.getElem_cons_zero, List.setIfInBounds_toArray, List.set_cons_zero, List.set_cons_succ])
        refine wpList_val (.bool true) (by rfl) (by go_simp) ?_
        (try simp only [Act.put, List.getElem_toArray, List.getElem_cons_succ, List.getElem_cons_zero, List.setIfInBounds_toArray, List.set_cons_zero, List.set_cons_succ])
        refine wpList_val (.int .i64 (k : Nat)) (by rfl) (by go_simp) ?_
        (try simp only [Act.put, List.getElem_toArray, List.getElem_cons_succ, List.getElem_cons_zero, List.setIfInBounds_toArray, List.set_cons_zero, List.set_cons_succ])
        refine wpList_val (.bool false) (by rfl) (by have q := h10; go_simp) ?_
        (try simp only [Act.put, List.getElem_toArray, List.getElem_cons_succ, List.getElem_cons_zero, List.setIfInBounds_toArray, List.set_cons_zero, List.set_cons_succ])
        refine wpList_val (.bool false) (by rfl) (run_pick_yes (.tmp 39) (.tmp 41) (.const (.bool false)) _ rfl rfl rfl) ?_
        (try simp only [Act.put, List.getElem_toArray, List.getElem_cons_succ, List.getElem_cons_zero, List.setIfInBounds_toArray, List.set_cons_zero, List.set_cons_succ])
        refine wpList_nil ?_
        go_wp2_with fail
        exact HKX.out _ _ (lv18 y h tt HW HT b1 b8 b9 _ _ _ _ _ _ _ _ _ _ _ _ _ _ _ _ _ _ _ _ _ _ _ _ _ _ _ _ _ _ _ _ _ _ _ _ _ _ _ _ _ _ _ _ _ _ _ _ _ _ _ _ _ _ _ _ _ _ _ _ _ _ _ _ _ _ _ _ _ _ _ _ _ _ _ _ _ _ _ _ _ _ _ _ _ _ _ _ _ _ _ _ _ _ _ _ _ w wr K1.out)
      case pos =>
        go_upto_region 8 with fail
        refine wp_region_lit ?_
        refine wpList_val (.int .i64 (k : Nat)) (by rfl) (by go_simp) ?_
        (try simp only [Act.put, List.getElem_toArray, List.getElem_cons_succ, List.getElem_cons_zero, List.setIfInBounds_toArray, List.set_cons_zero, List.set_cons_succ])
        refine wpList_val (.slice a n m) (by rfl) (by go_simp) ?_
        (try simp only [Act.put, List.getElem_toArray, List.getElem_cons_succ, List.getElem_cons_zero, List.setIfInBounds_toArray, List.set_cons_zero, List.set_cons_succ])
        refine wpList_val (.int .i64 (n : Nat)) (by rfl) (by go_simp) ?_
        (try simp only [Act.put, List.getElem_toArray, List.getElem_cons_succ, List.getElem_cons_zero, List.setIfInBounds_toArray, List.set_cons_zero, List.set_cons_succ])
        refine wpList_val (.bool true) (by rfl) (by have q := hlt; go_simp) ?_
        (try simp only [Act.put, List.getElem_toArray, List.getElem_cons_succ, List.getElem_cons_zero, List.setIfInBounds_toArray, List.set_cons_zero, List.set_cons_succ])
        refine wpList_val (.bool true) (by rfl) (by go_simp) ?_
        (try simp only [Act.put, List.getElem_toArray, List.getElem_cons_succ, List.getElem_cons_zero, List.setIfInBounds_toArray, List.set_cons_zero, List.set_cons_succ])
        refine wpList_val (.int .i64 (k : Nat)) (by rfl) (by go_simp) ?_
        (try simp only [Act.put, List.getElem_toArray, List.getElem_cons_succ, List.getElem_cons_zero, List.setIfInBounds_toArray, List.set_cons_zero, List.set_cons_succ])
        refine wpList_val (.bool true) (by rfl) (by have q := h10; go_simp) ?_
        (try simp only [Act.put, List.getElem_toArray, List.getElem_cons_succ, List.getElem_cons_zero, List.setIfInBounds_toArray, List.set_cons_zero, List.set_cons_succ])
        refine wpList_val (.bool true) (by rfl) (run_pick_yes (.tmp 39) (.tmp 41) (.const (.bool false)) _ rfl rfl rfl) ?_
        (try simp only [Act.put, List.getElem_toArray, List.getElem_cons_succ, List.getElem_cons_zero, List.setIfInBounds_toArray, List.set_cons_zero, List.set_cons_succ])
        refine wpList_nil ?_
        go_upto_region 10 with fail
        obtain ⟨x, z, rfl, hz, hc⟩ := row_cell HR.out (show k < n by omega)
        obtain ⟨r, hr⟩ : ∃ r, r = Int.tmod (z : Nat) tt := ⟨_, rfl⟩
        have hr0 : 0 ≤ r ∧ r < tt := by rw [hr]; exact ⟨Int.tmod_nonneg _ (by omega), Int.tmod_lt_of_pos _ (by have := HT.out; omega)⟩
        have HC := Lib.hid hc
        have HRR := Lib.hid hr
        have HR0 := Lib.hid hr0
        have HZ := Lib.hid hz
        have HLT := Lib.hid hlt
        have H10 := Lib.hid h10
        have HMX := Lib.hid (show k < m by have := HN.out; omega)
        clear hc hr hr0 hz hlt h10
        go_upto_region 11 with fail
        go_loopw [11] (fun j wq => ∃ (q : Nat) (lf : Int), (q : Int) ≤ r ∧ lf = tt - q ∧ j = .int .i64 q ∧ Kb w [(b1, tvA y, 52), (b8, cfA ⟨0, 9, h, 3, 0, 0⟩, 58), (b9, poA ⟨0, 0, false, 0, 0, false, true, true, true, false, 0, 0, 2, (y.r : Nat), (y.c : Nat), (y.b : Nat), (y.p : Nat), 0, lf, 3, 0⟩, 62)] wq) (fun j _ => (r - intOf j).toNat)
        case atStart => exact ⟨0, tt, by have := HR0.out; omega, by simp, rfl, K1.out⟩
        case round =>
          obtain ⟨q, lf, hq, hlf, rfl, hK⟩ := hrel
          have K2 := Lib.hid hK
          have HQ := Lib.hid (show (q : Int) ≤ r ∧ lf = tt - q from ⟨hq, hlf⟩)
          have HL2 := Lib.hid (show lf ≤ 30 by have := HT.out; omega)
          have HL1 := Lib.hid (show 1 < lf ∨ lf = 1 by have := HR0.out; omega)
          clear hK hq hlf
          by_cases hqr : (q : Int) < r
          case pos =>
            have HQR := Lib.hid hqr
            have HL1 := Lib.hid (show 1 < lf by have := HR0.out; have := HQ.out; omega)
            obtain ⟨lg, hlg⟩ : ∃ g, g = lf - 1 := ⟨_, rfl⟩
            have HG := Lib.hid hlg
            clear hlg hqr
            go_upto_region 11 with fail
            refine wp_region_lit ?_
            refine wpList_val (.int .i64 (q : Nat)) (by rfl) (by go_simp) ?_
            (try simp only [Act.put, List.getElem_toArray, List.getElem_cons_succ, List.getElem_cons_zero, List.setIfInBounds_toArray, List.set_cons_zero, List.set_cons_succ])
            refine wpList_val (.slice (some x) n m) (by rfl) (by go_simp) ?_
            (try simp only [Act.put, List.getElem_toArray, List.getElem_cons_succ, List.getElem_cons_zero, List.setIfInBounds_toArray, List.set_cons_zero, List.set_cons_succ])
            refine wpList_val (.int .i64 (k : Nat)) (by rfl) (by go_simp) ?_
            (try simp only [Act.put, List.getElem_toArray, List.getElem_cons_succ, List.getElem_cons_zero, List.setIfInBounds_toArray, List.set_cons_zero, List.set_cons_succ])
            refine wpList_val (.pointer (some (x.add k))) (by rfl) (by have q1 := HLT.out; have q2 := HMX.out; have q3 := HN.out; go_simp) ?_
            (try simp only [Act.put, List.getElem_toArray, List.getElem_cons_succ, List.getElem_cons_zero, List.setIfInBounds_toArray, List.set_cons_zero, List.set_cons_succ])
            refine wpList_val (.int .u8 (z : Nat)) (by rfl) (by have q := HC.out _ K2.out.below; go_simp) ?_
            (try simp only [Act.put, List.getElem_toArray, List.getElem_cons_succ, List.getElem_cons_zero, List.setIfInBounds_toArray, List.set_cons_zero, List.set_cons_succ])
            refine wpList_val (.int .i64 (z : Nat)) (by rfl) (by have q := HZ.out; go_simp; exact wrap_i64 (by omega) (by omega)) ?_
            (try simp only [Act.put, List.getElem_toArray, List.getElem_cons_succ, List.getElem_cons_zero, List.setIfInBounds_toArray, List.set_cons_zero, List.set_cons_succ])
            refine wpList_val (.int .i64 h) (by rfl) (by go_simp) ?_
            (try simp only [Act.put, List.getElem_toArray, List.getElem_cons_succ, List.getElem_cons_zero, List.setIfInBounds_toArray, List.set_cons_zero, List.set_cons_succ])
            refine wpList_val (.int .i64 tt) (by rfl) (by rw [← HW.out]; go_simp) ?_
            (try simp only [Act.put, List.getElem_toArray, List.getElem_cons_succ, List.getElem_cons_zero, List.setIfInBounds_toArray, List.set_cons_zero, List.set_cons_succ])
            refine wpList_val (.int .i64 r) (by rfl) (by have q : ¬ tt = 0 := by { have := HT.out; omega }; rw [HRR.out]; go_simp) ?_
            (try simp only [Act.put, List.getElem_toArray, List.getElem_cons_succ, List.getElem_cons_zero, List.setIfInBounds_toArray, List.set_cons_zero, List.set_cons_succ])
            refine wpList_val (.bool true) (by rfl) (by have q := HQR.out; go_simp) ?_
            (try simp only [Act.put, List.getElem_toArray, List.getElem_cons_succ, List.getElem_cons_zero, List.setIfInBounds_toArray, List.set_cons_zero, List.set_cons_succ])
            refine wpList_nil ?_
            go_upto_region 13 with fail
            refine wp_region_lit ?_
            refine wpList_val (.bool false) (by rfl) (by go_simp) ?_
            (try simp only [Act.put, List.getElem_toArray, List.getElem_cons_succ, List.getElem_cons_zero, List.setIfInBounds_toArray, List.set_cons_zero, List.set_cons_succ])
            refine wpList_nil ?_
            go_upto_region 14 with fail
            refine wp_region_lit ?_
            refine wpList_val (.agg (poA ⟨0, 0, false, 0, 0, false, true, true, true, false, 0, 0, 2, (y.r : Nat), (y.c : Nat), (y.b : Nat), (y.p : Nat), 0, lf, 3, 0⟩)) (by rfl) (kb_all K2.out 2 rfl 62 _ rfl rfl Try.underlying62 rfl (size50)) ?_
            (try simp only [Act.put, List.getElem_toArray, List.getElem_cons_succ, List.getElem_cons_zero, List.setIfInBounds_toArray, List.set_cons_zero, List.set_cons_succ])
            refine kb_call K2.out 18 #[.agg (poA ⟨0, 0, false, 0, 0, false, true, true, true, false, 0, 0, 2, (y.r : Nat), (y.c : Nat), (y.b : Nat), (y.p : Nat), 0, lf, 3, 0⟩)] (.tuple #[.agg (poA ⟨0, 0, false, 0, 0, false, true, true, true, false, 0, 0, 2, (y.r : Nat), (y.c : Nat), (y.b : Nat), (y.p : Nat), 0, lg, 3, 0⟩), .bool false]) (by rfl) (by go_simp) (fade_is ⟨0, 0, false, 0, 0, false, true, true, true, false, 0, 0, 2, (y.r : Nat), (y.c : Nat), (y.b : Nat), (y.p : Nat), 0, lf, 3, 0⟩ ⟨0, 0, false, 0, 0, false, true, true, true, false, 0, 0, 2, (y.r : Nat), (y.c : Nat), (y.b : Nat), (y.p : Nat), 0, lg, 3, 0⟩ false (lives_p y lf lg HL1.out HL2.out HG.out) (lives_b y lf HL1.out) wr) ?_
            intro w2 hk
            have K2 := Lib.hid (show Kb w [(b1, tvA y, 52), (b8, cfA ⟨0, 9, h, 3, 0, 0⟩, 58), (b9, poA ⟨0, 0, false, 0, 0, false, true, true, true, false, 0, 0, 2, (y.r : Nat), (y.c : Nat), (y.b : Nat), (y.p : Nat), 0, lf, 3, 0⟩, 62)] w2 from hk)
            clear hk
            (try simp only [Act.put, List.getElem_toArray, List.getElem_cons_succ, List.getElem_cons_zero, List.setIfInBounds_toArray, List.set_cons_zero, List.set_cons_succ])
            refine wpList_val (.tuple #[.agg (poA ⟨0, 0, false, 0, 0, false, true, true, true, false, 0, 0, 2, (y.r : Nat), (y.c : Nat), (y.b : Nat), (y.p : Nat), 0, lg, 3, 0⟩), .bool false]) (by rfl) (by go_simp) ?_
            (try simp only [Act.put, List.getElem_toArray, List.getElem_cons_succ, List.getElem_cons_zero, List.setIfInBounds_toArray, List.set_cons_zero, List.set_cons_succ])
            refine wpList_val (.agg (poA ⟨0, 0, false, 0, 0, false, true, true, true, false, 0, 0, 2, (y.r : Nat), (y.c : Nat), (y.b : Nat), (y.p : Nat), 0, lg, 3, 0⟩)) (by rfl) (by go_simp) ?_
            (try simp only [Act.put, List.getElem_toArray, List.getElem_cons_succ, List.getElem_cons_zero, List.setIfInBounds_toArray, List.set_cons_zero, List.set_cons_succ])
            refine wpList_val (.bool false) (by rfl) (by go_simp) ?_
            (try simp only [Act.put, List.getElem_toArray, List.getElem_cons_succ, List.getElem_cons_zero, List.setIfInBounds_toArray, List.set_cons_zero, List.set_cons_succ])
            refine kb_row K2.out 2 rfl 62 _ _ (poA ⟨0, 0, false, 0, 0, false, true, true, true, false, 0, 0, 2, (y.r : Nat), (y.c : Nat), (y.b : Nat), (y.p : Nat), 0, lg, 3, 0⟩) rfl rfl rfl rfl (size50) (by rfl) (po_all _) ?_
            intro w3 hk
            have K3 := Lib.hid (show Kb w [(b1, tvA y, 52), (b8, cfA ⟨0, 9, h, 3, 0, 0⟩, 58), (b9, poA ⟨0, 0, false, 0, 0, false, true, true, true, false, 0, 0, 2, (y.r : Nat), (y.c : Nat), (y.b : Nat), (y.p : Nat), 0, lg, 3, 0⟩, 62)] w3 from hk)
            clear hk
            (try simp only [Act.put, List.getElem_toArray, List.getElem_cons_succ, List.getElem_cons_zero, List.setIfInBounds_toArray, List.set_cons_zero, List.set_cons_succ])
            refine wpList_val (.bool false) (by rfl) (by go_simp) ?_
            (try simp only [Act.put, List.getElem_toArray, List.getElem_cons_succ, List.getElem_cons_zero, List.setIfInBounds_toArray, List.set_cons_zero, List.set_cons_succ])
            refine wpList_nil ?_
            go_upto_region 15 with fail
            refine wp_region_lit ?_
            refine wpList_val (.bool false) (by rfl) (by go_simp) ?_
            (try simp only [Act.put, List.getElem_toArray, List.getElem_cons_succ, List.getElem_cons_zero, List.setIfInBounds_toArray, List.set_cons_zero, List.set_cons_succ])
            refine wpList_nil ?_
            have hkb : (q : Int) < 31 := by have := HQR.out; have := HR0.out; have := HT.out; omega
            go_wp2_with fail
            go_roundw
            case rel => exact ⟨q + 1, lg, by have := HQR.out; omega, by have := HQ.out; have := HG.out; omega, by go_num, K3.out⟩
            case measure => have := HQR.out; simp [intOf]; omega
          case neg =>
            have HQR := Lib.hid hqr
            clear hqr
            go_upto_region 11 with fail
            refine wp_region_lit ?_
            refine wpList_val (.int .i64 (q : Nat)) (by rfl) (by go_simp) ?_
            (try simp only [Act.put, List.getElem_toArray, List.getElem_cons_succ, List.getElem_cons_zero, List.setIfInBounds_toArray, List.set_cons_zero, List.set_cons_succ])
            refine wpList_val (.slice (some x) n m) (by rfl) (by go_simp) ?_
            (try simp only [Act.put, List.getElem_toArray, List.getElem_cons_succ, List.getElem_cons_zero, List.setIfInBounds_toArray, List.set_cons_zero, List.set_cons_succ])
            refine wpList_val (.int .i64 (k : Nat)) (by rfl) (by go_simp) ?_
            (try simp only [Act.put, List.getElem_toArray, List.getElem_cons_succ, List.getElem_cons_zero, List.setIfInBounds_toArray, List.set_cons_zero, List.set_cons_succ])
            refine wpList_val (.pointer (some (x.add k))) (by rfl) (by have q1 := HLT.out; have q2 := HMX.out; have q3 := HN.out; go_simp) ?_
            (try simp only [Act.put, List.getElem_toArray, List.getElem_cons_succ, List.getElem_cons_zero, List.setIfInBounds_toArray, List.set_cons_zero, List.set_cons_succ])
            refine wpList_val (.int .u8 (z : Nat)) (by rfl) (by have q := HC.out _ K2.out.below; go_simp) ?_
            (try simp only [Act.put, List.getElem_toArray, List.getElem_cons_succ, List.getElem_cons_zero, List.setIfInBounds_toArray, List.set_cons_zero, List.set_cons_succ])
            refine wpList_val (.int .i64 (z : Nat)) (by rfl) (by have q := HZ.out; go_simp; exact wrap_i64 (by omega) (by omega)) ?_
            (try simp only [Act.put, List.getElem_toArray, List.getElem_cons_succ, List.getElem_cons_zero, List.setIfInBounds_toArray, List.set_cons_zero, List.set_cons_succ])
            refine wpList_val (.int .i64 h) (by rfl) (by go_simp) ?_
            (try simp only [Act.put, List.getElem_toArray, List.getElem_cons_succ, List.getElem_cons_zero, List.setIfInBounds_toArray, List.set_cons_zero, List.set_cons_succ])
            refine wpList_val (.int .i64 tt) (by rfl) (by rw [← HW.out]; go_simp) ?_
            (try simp only [Act.put, List.getElem_toArray, List.getElem_cons_succ, List.getElem_cons_zero, List.setIfInBounds_toArray, List.set_cons_zero, List.set_cons_succ])
            refine wpList_val (.int .i64 r) (by rfl) (by have q : ¬ tt = 0 := by { have := HT.out; omega }; rw [HRR.out]; go_simp) ?_
            (try simp only [Act.put, List.getElem_toArray, List.getElem_cons_succ, List.getElem_cons_zero, List.setIfInBounds_toArray, List.set_cons_zero, List.set_cons_succ])
            refine wpList_val (.bool false) (by rfl) (by have q := HQR.out; go_simp) ?_
            (try simp only [Act.put, List.getElem_toArray, List.getElem_cons_succ, List.getElem_cons_zero, List.setIfInBounds_toArray, List.set_cons_zero, List.set_cons_succ])
            refine wpList_nil ?_
            go_upto_region 17 with fail
            refine wp_region_inv_dc (I := fun L ac w' => ac = LvB y h tt r n m k q z x f0 f1 f4 f5 u6 u12 f13 f14 f15 f16 f17 f18 f19 f20 f21 f22 f23 f24 f25 f26 f27 f28 f29 f30 f31 f32 f33 f34 u43 u44 u55 u56 u57 u58 u59 u60 u61 u62 u63 u64 u65 u66 u67 u68 u69 u70 f71 f72 f73 f74 f75 f76 f77 f78 f79 f80 f81 f82 f83 f84 f85 f86 f87 f88 f89 f90 f91 f92 f93 f94 f95 f96 f97 f98 lf b1 b8 b9 L ∧ Kb w [(b1, tvA y, 52), (b8, cfA ⟨0, 9, h, 3, 0, 0⟩, 58), (b9, bif L 8 then poA ⟨0, 0, false, 0, 0, false, true, true, true, false, 0, 0, 2, (y.r : Nat), (y.c : Nat), (y.b : Nat), (y.p : Nat), 0, tt, 3, 0⟩ else poA ⟨0, 0, false, 0, 0, false, true, true, true, false, 0, 0, 2, (y.r : Nat), (y.c : Nat), (y.b : Nat), (y.p : Nat), 0, lf, 3, 0⟩, 62)] w') (by kernel_rfl) (by kernel_rfl) ⟨by kernel_rfl, K2.out.drew⟩ ?_ ?_
            · intro i hi Lx ac w' hI hL haft hdc
              obtain ⟨rfl, hw⟩ := hI
              match i, hi with
              | 0, _ =>
                have g9 : (LvB y h tt r n m k q z x f0 f1 f4 f5 u6 u12 f13 f14 f15 f16 f17 f18 f19 f20 f21 f22 f23 f24 f25 f26 f27 f28 f29 f30 f31 f32 f33 f34 u43 u44 u55 u56 u57 u58 u59 u60 u61 u62 u63 u64 u65 u66 u67 u68 u69 u70 f71 f72 f73 f74 f75 f76 f77 f78 f79 f80 f81 f82 f83 f84 f85 f86 f87 f88 f89 f90 f91 f92 f93 f94 f95 f96 f97 f98 lf b1 b8 b9 Lx).tmps[9]?.getD undef = .pointer (some ⟨b9, 0, none⟩) := by kernel_rfl
                have e9 : (LvB y h tt r n m k q z x f0 f1 f4 f5 u6 u12 f13 f14 f15 f16 f17 f18 f19 f20 f21 f22 f23 f24 f25 f26 f27 f28 f29 f30 f31 f32 f33 f34 u43 u44 u55 u56 u57 u58 u59 u60 u61 u62 u63 u64 u65 u66 u67 u68 u69 u70 f71 f72 f73 f74 f75 f76 f77 f78 f79 f80 f81 f82 f83 f84 f85 f86 f87 f88 f89 f90 f91 f92 f93 f94 f95 f96 f97 f98 lf b1 b8 b9 Lx).eval (.tmp 9) = .pointer (some ⟨b9, 0, none⟩) := by kernel_rfl
                have hn8 : Lx 8 = false := by
                  cases c : Lx 8 with
                  | false => rfl
                  | true => exact absurd (hdc 8 c 0 (by decide)) (by rw [hL]; decide)
                have hw0 : Kb w [(b1, tvA y, 52), (b8, cfA ⟨0, 9, h, 3, 0, 0⟩, 58), (b9, poA ⟨0, 0, false, 0, 0, false, true, true, true, false, 0, 0, 2, (y.r : Nat), (y.c : Nat), (y.b : Nat), (y.p : Nat), 0, lf, 3, 0⟩, 62)] w' := by rw [hn8] at hw; exact hw
                exact i_val rfl (.agg (poA ⟨0, 0, false, 0, 0, false, true, true, true, false, 0, 0, 2, (y.r : Nat), (y.c : Nat), (y.b : Nat), (y.p : Nat), 0, lf, 3, 0⟩)) w' (by rfl) (kb_all hw0 2 rfl 62 _ rfl e9 Try.underlying62 rfl (size50)) ⟨by kernel_rfl, hw⟩
              | 1, _ =>
                have g3 : (LvB y h tt r n m k q z x f0 f1 f4 f5 u6 u12 f13 f14 f15 f16 f17 f18 f19 f20 f21 f22 f23 f24 f25 f26 f27 f28 f29 f30 f31 f32 f33 f34 u43 u44 u55 u56 u57 u58 u59 u60 u61 u62 u63 u64 u65 u66 u67 u68 u69 u70 f71 f72 f73 f74 f75 f76 f77 f78 f79 f80 f81 f82 f83 f84 f85 f86 f87 f88 f89 f90 f91 f92 f93 f94 f95 f96 f97 f98 lf b1 b8 b9 Lx).tmps[3]?.getD undef = .pointer (some ⟨b1, 0, none⟩) := by kernel_rfl
                have e3 : (LvB y h tt r n m k q z x f0 f1 f4 f5 u6 u12 f13 f14 f15 f16 f17 f18 f19 f20 f21 f22 f23 f24 f25 f26 f27 f28 f29 f30 f31 f32 f33 f34 u43 u44 u55 u56 u57 u58 u59 u60 u61 u62 u63 u64 u65 u66 u67 u68 u69 u70 f71 f72 f73 f74 f75 f76 f77 f78 f79 f80 f81 f82 f83 f84 f85 f86 f87 f88 f89 f90 f91 f92 f93 f94 f95 f96 f97 f98 lf b1 b8 b9 Lx).eval (.tmp 3) = .pointer (some ⟨b1, 0, none⟩) := by kernel_rfl
                exact i_val rfl (.agg (tvA y)) w' (by rfl) (kb_all hw 0 rfl 52 _ rfl e3 Try.underlying52 rfl (size52)) ⟨by kernel_rfl, hw⟩
              | 2, _ =>
                have h1 := haft 1 (by decide)
                have e65 : (LvB y h tt r n m k q z x f0 f1 f4 f5 u6 u12 f13 f14 f15 f16 f17 f18 f19 f20 f21 f22 f23 f24 f25 f26 f27 f28 f29 f30 f31 f32 f33 f34 u43 u44 u55 u56 u57 u58 u59 u60 u61 u62 u63 u64 u65 u66 u67 u68 u69 u70 f71 f72 f73 f74 f75 f76 f77 f78 f79 f80 f81 f82 f83 f84 f85 f86 f87 f88 f89 f90 f91 f92 f93 f94 f95 f96 f97 f98 lf b1 b8 b9 Lx).eval (.tmp 65) = .agg (tvA y) := by show (bif Lx 1 then _ else _) = _; rw [h1]; rfl
                have g65 : (LvB y h tt r n m k q z x f0 f1 f4 f5 u6 u12 f13 f14 f15 f16 f17 f18 f19 f20 f21 f22 f23 f24 f25 f26 f27 f28 f29 f30 f31 f32 f33 f34 u43 u44 u55 u56 u57 u58 u59 u60 u61 u62 u63 u64 u65 u66 u67 u68 u69 u70 f71 f72 f73 f74 f75 f76 f77 f78 f79 f80 f81 f82 f83 f84 f85 f86 f87 f88 f89 f90 f91 f92 f93 f94 f95 f96 f97 f98 lf b1 b8 b9 Lx).tmps[65]?.getD undef = .agg (tvA y) := by show (bif Lx 1 then _ else _) = _; rw [h1]; rfl
                exact i_call rfl (.agg (vcA y)) 16 #[.agg (tvA y)] (fun w2 => Below w'.heap.size w' w2) (by rfl) (by go_simp) (itold_any y w') (fun w2 hb => ⟨by kernel_rfl, hw.next hb⟩)
              | 3, _ =>
                have g8 : (LvB y h tt r n m k q z x f0 f1 f4 f5 u6 u12 f13 f14 f15 f16 f17 f18 f19 f20 f21 f22 f23 f24 f25 f26 f27 f28 f29 f30 f31 f32 f33 f34 u43 u44 u55 u56 u57 u58 u59 u60 u61 u62 u63 u64 u65 u66 u67 u68 u69 u70 f71 f72 f73 f74 f75 f76 f77 f78 f79 f80 f81 f82 f83 f84 f85 f86 f87 f88 f89 f90 f91 f92 f93 f94 f95 f96 f97 f98 lf b1 b8 b9 Lx).tmps[8]?.getD undef = .pointer (some ⟨b8, 0, none⟩) := by kernel_rfl
                have e8 : (LvB y h tt r n m k q z x f0 f1 f4 f5 u6 u12 f13 f14 f15 f16 f17 f18 f19 f20 f21 f22 f23 f24 f25 f26 f27 f28 f29 f30 f31 f32 f33 f34 u43 u44 u55 u56 u57 u58 u59 u60 u61 u62 u63 u64 u65 u66 u67 u68 u69 u70 f71 f72 f73 f74 f75 f76 f77 f78 f79 f80 f81 f82 f83 f84 f85 f86 f87 f88 f89 f90 f91 f92 f93 f94 f95 f96 f97 f98 lf b1 b8 b9 Lx).eval (.tmp 8) = .pointer (some ⟨b8, 0, none⟩) := by kernel_rfl
                exact i_val rfl (.agg (cfA ⟨0, 9, h, 3, 0, 0⟩)) w' (by rfl) (kb_all hw 1 rfl 58 _ rfl e8 Try.underlying58 rfl (size34)) ⟨by kernel_rfl, hw⟩
              | 4, _ =>
                have h0 := haft 0 (by decide)
                have e64 : (LvB y h tt r n m k q z x f0 f1 f4 f5 u6 u12 f13 f14 f15 f16 f17 f18 f19 f20 f21 f22 f23 f24 f25 f26 f27 f28 f29 f30 f31 f32 f33 f34 u43 u44 u55 u56 u57 u58 u59 u60 u61 u62 u63 u64 u65 u66 u67 u68 u69 u70 f71 f72 f73 f74 f75 f76 f77 f78 f79 f80 f81 f82 f83 f84 f85 f86 f87 f88 f89 f90 f91 f92 f93 f94 f95 f96 f97 f98 lf b1 b8 b9 Lx).eval (.tmp 64) = .agg (poA ⟨0, 0, false, 0, 0, false, true, true, true, false, 0, 0, 2, (y.r : Nat), (y.c : Nat), (y.b : Nat), (y.p : Nat), 0, lf, 3, 0⟩) := by show (bif Lx 0 then _ else _) = _; rw [h0]; rfl
                have g64 : (LvB y h tt r n m k q z x f0 f1 f4 f5 u6 u12 f13 f14 f15 f16 f17 f18 f19 f20 f21 f22 f23 f24 f25 f26 f27 f28 f29 f30 f31 f32 f33 f34 u43 u44 u55 u56 u57 u58 u59 u60 u61 u62 u63 u64 u65 u66 u67 u68 u69 u70 f71 f72 f73 f74 f75 f76 f77 f78 f79 f80 f81 f82 f83 f84 f85 f86 f87 f88 f89 f90 f91 f92 f93 f94 f95 f96 f97 f98 lf b1 b8 b9 Lx).tmps[64]?.getD undef = .agg (poA ⟨0, 0, false, 0, 0, false, true, true, true, false, 0, 0, 2, (y.r : Nat), (y.c : Nat), (y.b : Nat), (y.p : Nat), 0, lf, 3, 0⟩) := by show (bif Lx 0 then _ else _) = _; rw [h0]; rfl
                have h2 := haft 2 (by decide)
                have e66 : (LvB y h tt r n m k q z x f0 f1 f4 f5 u6 u12 f13 f14 f15 f16 f17 f18 f19 f20 f21 f22 f23 f24 f25 f26 f27 f28 f29 f30 f31 f32 f33 f34 u43 u44 u55 u56 u57 u58 u59 u60 u61 u62 u63 u64 u65 u66 u67 u68 u69 u70 f71 f72 f73 f74 f75 f76 f77 f78 f79 f80 f81 f82 f83 f84 f85 f86 f87 f88 f89 f90 f91 f92 f93 f94 f95 f96 f97 f98 lf b1 b8 b9 Lx).eval (.tmp 66) = .agg (vcA y) := by show (bif Lx 2 then _ else _) = _; rw [h2]; rfl
                have g66 : (LvB y h tt r n m k q z x f0 f1 f4 f5 u6 u12 f13 f14 f15 f16 f17 f18 f19 f20 f21 f22 f23 f24 f25 f26 f27 f28 f29 f30 f31 f32 f33 f34 u43 u44 u55 u56 u57 u58 u59 u60 u61 u62 u63 u64 u65 u66 u67 u68 u69 u70 f71 f72 f73 f74 f75 f76 f77 f78 f79 f80 f81 f82 f83 f84 f85 f86 f87 f88 f89 f90 f91 f92 f93 f94 f95 f96 f97 f98 lf b1 b8 b9 Lx).tmps[66]?.getD undef = .agg (vcA y) := by show (bif Lx 2 then _ else _) = _; rw [h2]; rfl
                have h3 := haft 3 (by decide)
                have e67 : (LvB y h tt r n m k q z x f0 f1 f4 f5 u6 u12 f13 f14 f15 f16 f17 f18 f19 f20 f21 f22 f23 f24 f25 f26 f27 f28 f29 f30 f31 f32 f33 f34 u43 u44 u55 u56 u57 u58 u59 u60 u61 u62 u63 u64 u65 u66 u67 u68 u69 u70 f71 f72 f73 f74 f75 f76 f77 f78 f79 f80 f81 f82 f83 f84 f85 f86 f87 f88 f89 f90 f91 f92 f93 f94 f95 f96 f97 f98 lf b1 b8 b9 Lx).eval (.tmp 67) = .agg (cfA ⟨0, 9, h, 3, 0, 0⟩) := by show (bif Lx 3 then _ else _) = _; rw [h3]; rfl
                have g67 : (LvB y h tt r n m k q z x f0 f1 f4 f5 u6 u12 f13 f14 f15 f16 f17 f18 f19 f20 f21 f22 f23 f24 f25 f26 f27 f28 f29 f30 f31 f32 f33 f34 u43 u44 u55 u56 u57 u58 u59 u60 u61 u62 u63 u64 u65 u66 u67 u68 u69 u70 f71 f72 f73 f74 f75 f76 f77 f78 f79 f80 f81 f82 f83 f84 f85 f86 f87 f88 f89 f90 f91 f92 f93 f94 f95 f96 f97 f98 lf b1 b8 b9 Lx).tmps[67]?.getD undef = .agg (cfA ⟨0, 9, h, 3, 0, 0⟩) := by show (bif Lx 3 then _ else _) = _; rw [h3]; rfl
                exact i_call rfl (.tuple #[.agg (poA ⟨0, 0, false, 0, 0, false, true, true, true, false, 0, 0, 2, (y.r : Nat), (y.c : Nat), (y.b : Nat), (y.p : Nat), 0, tt, 3, 0⟩), .int .i64 2]) 17 #[.agg (poA ⟨0, 0, false, 0, 0, false, true, true, true, false, 0, 0, 2, (y.r : Nat), (y.c : Nat), (y.b : Nat), (y.p : Nat), 0, lf, 3, 0⟩), .agg (vcA y), .int .i64 0, .agg (cfA ⟨0, 9, h, 3, 0, 0⟩)] (fun w2 => Below w'.heap.size w' w2) (by rfl) (by go_simp) (hear_is ⟨0, 0, false, 0, 0, false, true, true, true, false, 0, 0, 2, (y.r : Nat), (y.c : Nat), (y.b : Nat), (y.p : Nat), 0, lf, 3, 0⟩ y y ⟨0, 0, false, 0, 0, false, true, true, true, false, 0, 0, 2, (y.r : Nat), (y.c : Nat), (y.b : Nat), (y.p : Nat), 0, lf, 3, 0⟩ 0 ⟨0, 9, h, 3, 0, 0⟩ ⟨0, 0, false, 0, 0, false, true, true, true, false, 0, 0, 2, (y.r : Nat), (y.c : Nat), (y.b : Nat), (y.p : Nat), 0, tt, 3, 0⟩ 2 rfl (again_p y h tt lf HW.out) (again_n y h lf) w') (fun w2 hb => ⟨by kernel_rfl, hw.next hb⟩)
              | 5, _ =>
                have h4 := haft 4 (by decide)
                have e68 : (LvB y h tt r n m k q z x f0 f1 f4 f5 u6 u12 f13 f14 f15 f16 f17 f18 f19 f20 f21 f22 f23 f24 f25 f26 f27 f28 f29 f30 f31 f32 f33 f34 u43 u44 u55 u56 u57 u58 u59 u60 u61 u62 u63 u64 u65 u66 u67 u68 u69 u70 f71 f72 f73 f74 f75 f76 f77 f78 f79 f80 f81 f82 f83 f84 f85 f86 f87 f88 f89 f90 f91 f92 f93 f94 f95 f96 f97 f98 lf b1 b8 b9 Lx).eval (.tmp 68) = .tuple #[.agg (poA ⟨0, 0, false, 0, 0, false, true, true, true, false, 0, 0, 2, (y.r : Nat), (y.c : Nat), (y.b : Nat), (y.p : Nat), 0, tt, 3, 0⟩), .int .i64 2] := by show (bif Lx 4 then _ else _) = _; rw [h4]; rfl
                have g68 : (LvB y h tt r n m k q z x f0 f1 f4 f5 u6 u12 f13 f14 f15 f16 f17 f18 f19 f20 f21 f22 f23 f24 f25 f26 f27 f28 f29 f30 f31 f32 f33 f34 u43 u44 u55 u56 u57 u58 u59 u60 u61 u62 u63 u64 u65 u66 u67 u68 u69 u70 f71 f72 f73 f74 f75 f76 f77 f78 f79 f80 f81 f82 f83 f84 f85 f86 f87 f88 f89 f90 f91 f92 f93 f94 f95 f96 f97 f98 lf b1 b8 b9 Lx).tmps[68]?.getD undef = .tuple #[.agg (poA ⟨0, 0, false, 0, 0, false, true, true, true, false, 0, 0, 2, (y.r : Nat), (y.c : Nat), (y.b : Nat), (y.p : Nat), 0, tt, 3, 0⟩), .int .i64 2] := by show (bif Lx 4 then _ else _) = _; rw [h4]; rfl
                exact i_val rfl (.tuple #[.agg (poA ⟨0, 0, false, 0, 0, false, true, true, true, false, 0, 0, 2, (y.r : Nat), (y.c : Nat), (y.b : Nat), (y.p : Nat), 0, tt, 3, 0⟩), .int .i64 2]) w' (by rfl) (by go_simp) ⟨by kernel_rfl, hw⟩
              | 6, _ =>
                have h5 := haft 5 (by decide)
                have e63 : (LvB y h tt r n m k q z x f0 f1 f4 f5 u6 u12 f13 f14 f15 f16 f17 f18 f19 f20 f21 f22 f23 f24 f25 f26 f27 f28 f29 f30 f31 f32 f33 f34 u43 u44 u55 u56 u57 u58 u59 u60 u61 u62 u63 u64 u65 u66 u67 u68 u69 u70 f71 f72 f73 f74 f75 f76 f77 f78 f79 f80 f81 f82 f83 f84 f85 f86 f87 f88 f89 f90 f91 f92 f93 f94 f95 f96 f97 f98 lf b1 b8 b9 Lx).eval (.tmp 63) = .tuple #[.agg (poA ⟨0, 0, false, 0, 0, false, true, true, true, false, 0, 0, 2, (y.r : Nat), (y.c : Nat), (y.b : Nat), (y.p : Nat), 0, tt, 3, 0⟩), .int .i64 2] := by show (bif Lx 5 then _ else _) = _; rw [h5]; rfl
                have g63 : (LvB y h tt r n m k q z x f0 f1 f4 f5 u6 u12 f13 f14 f15 f16 f17 f18 f19 f20 f21 f22 f23 f24 f25 f26 f27 f28 f29 f30 f31 f32 f33 f34 u43 u44 u55 u56 u57 u58 u59 u60 u61 u62 u63 u64 u65 u66 u67 u68 u69 u70 f71 f72 f73 f74 f75 f76 f77 f78 f79 f80 f81 f82 f83 f84 f85 f86 f87 f88 f89 f90 f91 f92 f93 f94 f95 f96 f97 f98 lf b1 b8 b9 Lx).tmps[63]?.getD undef = .tuple #[.agg (poA ⟨0, 0, false, 0, 0, false, true, true, true, false, 0, 0, 2, (y.r : Nat), (y.c : Nat), (y.b : Nat), (y.p : Nat), 0, tt, 3, 0⟩), .int .i64 2] := by show (bif Lx 5 then _ else _) = _; rw [h5]; rfl
                exact i_val rfl (.agg (poA ⟨0, 0, false, 0, 0, false, true, true, true, false, 0, 0, 2, (y.r : Nat), (y.c : Nat), (y.b : Nat), (y.p : Nat), 0, tt, 3, 0⟩)) w' (by rfl) (by go_simp) ⟨by kernel_rfl, hw⟩
              | 7, _ =>
                have h5 := haft 5 (by decide)
                have e63 : (LvB y h tt r n m k q z x f0 f1 f4 f5 u6 u12 f13 f14 f15 f16 f17 f18 f19 f20 f21 f22 f23 f24 f25 f26 f27 f28 f29 f30 f31 f32 f33 f34 u43 u44 u55 u56 u57 u58 u59 u60 u61 u62 u63 u64 u65 u66 u67 u68 u69 u70 f71 f72 f73 f74 f75 f76 f77 f78 f79 f80 f81 f82 f83 f84 f85 f86 f87 f88 f89 f90 f91 f92 f93 f94 f95 f96 f97 f98 lf b1 b8 b9 Lx).eval (.tmp 63) = .tuple #[.agg (poA ⟨0, 0, false, 0, 0, false, true, true, true, false, 0, 0, 2, (y.r : Nat), (y.c : Nat), (y.b : Nat), (y.p : Nat), 0, tt, 3, 0⟩), .int .i64 2] := by show (bif Lx 5 then _ else _) = _; rw [h5]; rfl
                have g63 : (LvB y h tt r n m k q z x f0 f1 f4 f5 u6 u12 f13 f14 f15 f16 f17 f18 f19 f20 f21 f22 f23 f24 f25 f26 f27 f28 f29 f30 f31 f32 f33 f34 u43 u44 u55 u56 u57 u58 u59 u60 u61 u62 u63 u64 u65 u66 u67 u68 u69 u70 f71 f72 f73 f74 f75 f76 f77 f78 f79 f80 f81 f82 f83 f84 f85 f86 f87 f88 f89 f90 f91 f92 f93 f94 f95 f96 f97 f98 lf b1 b8 b9 Lx).tmps[63]?.getD undef = .tuple #[.agg (poA ⟨0, 0, false, 0, 0, false, true, true, true, false, 0, 0, 2, (y.r : Nat), (y.c : Nat), (y.b : Nat), (y.p : Nat), 0, tt, 3, 0⟩), .int .i64 2] := by show (bif Lx 5 then _ else _) = _; rw [h5]; rfl
                exact i_val rfl (.int .i64 2) w' (by rfl) (by go_simp) ⟨by kernel_rfl, hw⟩
              | 8, _ =>
                have g9 : (LvB y h tt r n m k q z x f0 f1 f4 f5 u6 u12 f13 f14 f15 f16 f17 f18 f19 f20 f21 f22 f23 f24 f25 f26 f27 f28 f29 f30 f31 f32 f33 f34 u43 u44 u55 u56 u57 u58 u59 u60 u61 u62 u63 u64 u65 u66 u67 u68 u69 u70 f71 f72 f73 f74 f75 f76 f77 f78 f79 f80 f81 f82 f83 f84 f85 f86 f87 f88 f89 f90 f91 f92 f93 f94 f95 f96 f97 f98 lf b1 b8 b9 Lx).tmps[9]?.getD undef = .pointer (some ⟨b9, 0, none⟩) := by kernel_rfl
                have e9 : (LvB y h tt r n m k q z x f0 f1 f4 f5 u6 u12 f13 f14 f15 f16 f17 f18 f19 f20 f21 f22 f23 f24 f25 f26 f27 f28 f29 f30 f31 f32 f33 f34 u43 u44 u55 u56 u57 u58 u59 u60 u61 u62 u63 u64 u65 u66 u67 u68 u69 u70 f71 f72 f73 f74 f75 f76 f77 f78 f79 f80 f81 f82 f83 f84 f85 f86 f87 f88 f89 f90 f91 f92 f93 f94 f95 f96 f97 f98 lf b1 b8 b9 Lx).eval (.tmp 9) = .pointer (some ⟨b9, 0, none⟩) := by kernel_rfl
                have h6 := haft 6 (by decide)
                have e69 : (LvB y h tt r n m k q z x f0 f1 f4 f5 u6 u12 f13 f14 f15 f16 f17 f18 f19 f20 f21 f22 f23 f24 f25 f26 f27 f28 f29 f30 f31 f32 f33 f34 u43 u44 u55 u56 u57 u58 u59 u60 u61 u62 u63 u64 u65 u66 u67 u68 u69 u70 f71 f72 f73 f74 f75 f76 f77 f78 f79 f80 f81 f82 f83 f84 f85 f86 f87 f88 f89 f90 f91 f92 f93 f94 f95 f96 f97 f98 lf b1 b8 b9 Lx).eval (.tmp 69) = .agg (poA ⟨0, 0, false, 0, 0, false, true, true, true, false, 0, 0, 2, (y.r : Nat), (y.c : Nat), (y.b : Nat), (y.p : Nat), 0, tt, 3, 0⟩) := by show (bif Lx 6 then _ else _) = _; rw [h6]; rfl
                have g69 : (LvB y h tt r n m k q z x f0 f1 f4 f5 u6 u12 f13 f14 f15 f16 f17 f18 f19 f20 f21 f22 f23 f24 f25 f26 f27 f28 f29 f30 f31 f32 f33 f34 u43 u44 u55 u56 u57 u58 u59 u60 u61 u62 u63 u64 u65 u66 u67 u68 u69 u70 f71 f72 f73 f74 f75 f76 f77 f78 f79 f80 f81 f82 f83 f84 f85 f86 f87 f88 f89 f90 f91 f92 f93 f94 f95 f96 f97 f98 lf b1 b8 b9 Lx).tmps[69]?.getD undef = .agg (poA ⟨0, 0, false, 0, 0, false, true, true, true, false, 0, 0, 2, (y.r : Nat), (y.c : Nat), (y.b : Nat), (y.p : Nat), 0, tt, 3, 0⟩) := by show (bif Lx 6 then _ else _) = _; rw [h6]; rfl
                have hw0 : Kb w [(b1, tvA y, 52), (b8, cfA ⟨0, 9, h, 3, 0, 0⟩, 58), (b9, poA ⟨0, 0, false, 0, 0, false, true, true, true, false, 0, 0, 2, (y.r : Nat), (y.c : Nat), (y.b : Nat), (y.p : Nat), 0, lf, 3, 0⟩, 62)] w' := by rw [hL] at hw; exact hw
                exact i_wp rfl (by rfl) (wp_store_row 62 _ _ rfl b9 (poA ⟨0, 0, false, 0, 0, false, true, true, true, false, 0, 0, 2, (y.r : Nat), (y.c : Nat), (y.b : Nat), (y.p : Nat), 0, tt, 3, 0⟩) e9 e69 62 (poA ⟨0, 0, false, 0, 0, false, true, true, true, false, 0, 0, 2, (y.r : Nat), (y.c : Nat), (y.b : Nat), (y.p : Nat), 0, lf, 3, 0⟩) (Kb.at (i := 2) hw0 rfl) (size50) (by rfl) (po_all _) ⟨by kernel_rfl, cast_blk (Kb.row (i := 2) hw0 rfl (poA ⟨0, 0, false, 0, 0, false, true, true, true, false, 0, 0, 2, (y.r : Nat), (y.c : Nat), (y.b : Nat), (y.p : Nat), 0, tt, 3, 0⟩)) (by rfl)⟩)
              | k + 9, h =>
                exfalso
                have h2 : k + 9 < 9 := h
                omega
            intro Lx ac w2 hI hall
            obtain ⟨rfl, hw⟩ := hI
            have hfr : LvB y h tt r n m k q z x f0 f1 f4 f5 u6 u12 f13 f14 f15 f16 f17 f18 f19 f20 f21 f22 f23 f24 f25 f26 f27 f28 f29 f30 f31 f32 f33 f34 u43 u44 u55 u56 u57 u58 u59 u60 u61 u62 u63 u64 u65 u66 u67 u68 u69 u70 f71 f72 f73 f74 f75 f76 f77 f78 f79 f80 f81 f82 f83 f84 f85 f86 f87 f88 f89 f90 f91 f92 f93 f94 f95 f96 f97 f98 lf b1 b8 b9 Lx = { tmps := #[f0, f1, .slice (some x) n m, .pointer (some ⟨b1, 0, none⟩), f4, f5, u6, .int .i64 h, .pointer (some ⟨b8, 0, none⟩), .pointer (some ⟨b9, 0, none⟩), .int .i64 (k : Nat), .int .i64 (q : Nat), u12, f13, f14, f15, f16, f17, f18, f19, f20, f21, f22, f23, f24, f25, f26, f27, f28, f29, f30, f31, f32, f33, f34, .int .i64 (k : Nat), .slice (some x) n m, .int .i64 (n : Nat), .bool true, .bool true, .int .i64 (k : Nat), .bool true, .bool true, u43, u44, .int .i64 (q : Nat), .slice (some x) n m, .int .i64 (k : Nat), .pointer (some (x.add k)), .int .u8 (z : Nat), .int .i64 (z : Nat), .int .i64 h, .int .i64 tt, .int .i64 r, .bool false, u55, u56, u57, u58, u59, u60, u61, u62, .tuple #[.agg (poA ⟨0, 0, false, 0, 0, false, true, true, true, false, 0, 0, 2, (y.r : Nat), (y.c : Nat), (y.b : Nat), (y.p : Nat), 0, tt, 3, 0⟩), .int .i64 2], .agg (poA ⟨0, 0, false, 0, 0, false, true, true, true, false, 0, 0, 2, (y.r : Nat), (y.c : Nat), (y.b : Nat), (y.p : Nat), 0, lf, 3, 0⟩), .agg (tvA y), .agg (vcA y), .agg (cfA ⟨0, 9, h, 3, 0, 0⟩), .tuple #[.agg (poA ⟨0, 0, false, 0, 0, false, true, true, true, false, 0, 0, 2, (y.r : Nat), (y.c : Nat), (y.b : Nat), (y.p : Nat), 0, tt, 3, 0⟩), .int .i64 2], .agg (poA ⟨0, 0, false, 0, 0, false, true, true, true, false, 0, 0, 2, (y.r : Nat), (y.c : Nat), (y.b : Nat), (y.p : Nat), 0, tt, 3, 0⟩), .int .i64 2, f71, f72, f73, f74, f75, f76, f77, f78, f79, f80, f81, f82, f83, f84, f85, f86, f87, f88, f89, f90, f91, f92, f93, f94, f95, f96, f97, f98], defers := [] } := by unfold LvB; simp only [hall 0 (by decide), hall 1 (by decide), hall 2 (by decide), hall 3 (by decide), hall 4 (by decide), hall 5 (by decide), hall 6 (by decide), hall 7 (by decide), cond_true]
            rw [hfr]
            clear hfr
            have hL8 := hall 8 (by decide)
            simp only [hL8, cond_true] at hw
            have K2 := Lib.hid (show Kb w [(b1, tvA y, 52), (b8, cfA ⟨0, 9, h, 3, 0, 0⟩, 58), (b9, poA ⟨0, 0, false, 0, 0, false, true, true, true, false, 0, 0, 2, (y.r : Nat), (y.c : Nat), (y.b : Nat), (y.p : Nat), 0, tt, 3, 0⟩, 62)] w2 from hw)
            clear hw hall hL8
            have hkb : (k : Int) < 10 := H10.out
            have hlt := HLT.out
            go_wp2_with fail
            go_roundw
            case rel => exact ⟨k + 1, by omega, by go_num, K2.out⟩
            case measure => simp [intOf]; omega
end Go.Proofs.Ytojijeaofkndpaa
