/- RoleChooses: its loop. -/
import Derived.Test.YtojijeaofkndpaaRq0
namespace Go.Proofs.Ytojijeaofkndpaa
open Go.RowKit
attribute [local irreducible] wpQuiet wpList
set_option linter.unusedSimpArgs false
set_option linter.unusedVariables false

noncomputable def tail3 (n : Nat) : Code := ((Try.f3.body.bind (fromC n)).getD .skip)
/-- The slots, while the region runs. -/
def ChL (n k g1 g2 g3 g4 c1 c2 c3 c4 b7 b8 : Nat) (r : Int) (t : Vc) (f0 f1 f2 f3 u4 f5 f6 f11 f12 f13 f14 f15 f16 f17 f18 f19 f20 f21 f22 f23 f24 f25 f26 f27 f28 f29 f30 f31 f32 f33 f34 f35 f36 f37 f38 f39 f40 f41 f42 f43 f44 f45 f46 f47 f48 f49 f50 f51 f52 f53 f54 f55 f56 f57 f58 f59 f60 u66 u67 u73 u74 u75 u76 u77 u78 u79 u80 u81 u82 u83 u84 u85 u86 u87 u88 u89 u90 u91 u92 u93 u94 u95 u96 u97 u98 u99 u100 : Value) (b1 : Nat) (L : Nat → Bool) : Act := { tmps := #[f0, f1, f2, f3, u4, f5, f6, .pointer (some ⟨b7, 0, none⟩), .pointer (some ⟨b8, 0, none⟩), .int .i64 (k : Nat), .pointer (some ⟨b1, 0, none⟩), f11, f12, f13, f14, f15, f16, f17, f18, f19, f20, f21, f22, f23, f24, f25, f26, f27, f28, f29, f30, f31, f32, f33, f34, f35, f36, f37, f38, f39, f40, f41, f42, f43, f44, f45, f46, f47, f48, f49, f50, f51, f52, f53, f54, f55, f56, f57, f58, f59, f60, .int .i64 (k : Nat), .pointer (some ⟨b8, 3, none⟩), .slice (some ⟨g3, 0, none⟩) n c3, .int .i64 (n : Nat), .bool true, u66, u67, .pointer (some ⟨b8, 4, none⟩), .slice (some ⟨g4, 0, none⟩) n c4, .int .i64 (k : Nat), .pointer (some ⟨g4, k * 4, none⟩), .agg (vcA t), bif L 0 then .pointer (some ⟨b7, 3, none⟩) else u73, bif L 1 then .slice (some ⟨g1, 0, none⟩) n c1 else u74, bif L 2 then .int .i64 (k : Nat) else u75, bif L 3 then .pointer (some ⟨g1, k, none⟩) else u76, bif L 4 then .int .i64 r else u77, bif L 5 then .pointer (some ⟨b8, 3, none⟩) else u78, bif L 6 then .slice (some ⟨g3, 0, none⟩) n c3 else u79, bif L 7 then .int .i64 (k : Nat) else u80, bif L 8 then .pointer (some ⟨g3, k, none⟩) else u81, bif L 9 then .int .i64 r else u82, bif L 10 then .bool false else u83, bif L 11 then .bool false else u84, bif L 12 then .pointer (some ⟨b7, 4, none⟩) else u85, bif L 13 then .slice (some ⟨g2, 0, none⟩) n c2 else u86, bif L 14 then .int .i64 (k : Nat) else u87, bif L 15 then .pointer (some ⟨g2, k * 4, none⟩) else u88, bif L 16 then .agg (vcA t) else u89, bif L 17 then .pointer (some ⟨b1, 0, none⟩) else u90, bif L 18 then .int .u64 (t.r : Nat) else u91, bif L 19 then .pointer (some ⟨b1, 1, none⟩) else u92, bif L 20 then .int .u32 (t.c : Nat) else u93, bif L 21 then .pointer (some ⟨b1, 2, none⟩) else u94, bif L 22 then .int .u64 (t.b : Nat) else u95, bif L 23 then .pointer (some ⟨b1, 3, none⟩) else u96, bif L 24 then .int .u16 (t.p : Nat) else u97, bif L 25 then .agg (vcA t) else u98, bif L 26 then .bool false else u99, bif L 27 then .bool false else u100], defers := [] }
set_option maxRecDepth 100000 in
set_option maxHeartbeats 8000000 in
theorem ch7 (n : Nat) (R C : Nat) (P : Int) (b7 b8 : Nat) (m1 : List Int) (m2 : List Vc) (a1 : Option Addr) (c1 : Nat) (a2 : Option Addr) (c2 : Nat) (a3 : Option Addr) (c3 : Nat) (a4 : Option Addr) (c4 : Nat) (f0 f1 f2 f3 f4 f5 f6 f9 f10 f11 f12 f13 f14 f15 f16 f17 f18 f19 f20 f21 f22 f23 f24 f25 f26 f27 f28 f29 f30 f31 f32 f33 f34 f35 f36 f37 f38 f39 f40 f41 f42 f43 f44 f45 f46 f47 f48 f49 f50 f51 f52 f53 f54 f55 f56 f57 f58 f59 f60 f61 f62 f63 f64 f65 f66 f67 f68 f69 f70 f71 f72 f73 f74 f75 f76 f77 f78 f79 f80 f81 f82 f83 f84 f85 f86 f87 f88 f89 f90 f91 f92 f93 f94 f95 f96 f97 f98 f99 f100 : Value) (w wj : World) (B1 B2 : Nat) (hn : n ≤ 16) (l1 : m1.length = n) (l2 : m2.length = n)
    (hb : Below w.heap.size w wj) (h1 : Own wj B1 3 1 inC (.slice a1 n c1) m1) (h2 : Own wj B1 44 4 vcC (.slice a2 n c2) m2) (h3 : Own wj B2 3 1 inC (.slice a3 n c3) m1) (h4 : Own wj B2 42 4 vcC (.slice a4 n c4) m2)
    (hc : Blk wj b7 (chA R C P (.slice a1 n c1) (.slice a2 n c2)) 34) (hd : Blk wj b8 (chA R C P (.slice a3 n c3) (.slice a4 n c4)) 38) :
    Code.wp Try.prog (tail3 7) (bodyPost Try.prog Try.f3 fun e w' => e = .returned (.bool true) ∧ Below w.heap.size w w') { tmps := #[f0, f1, f2, f3, f4, f5, f6, .pointer (some ⟨b7, 0, none⟩), .pointer (some ⟨b8, 0, none⟩), f9, f10, f11, f12, f13, f14, f15, f16, f17, f18, f19, f20, f21, f22, f23, f24, f25, f26, f27, f28, f29, f30, f31, f32, f33, f34, f35, f36, f37, f38, f39, f40, f41, f42, f43, f44, f45, f46, f47, f48, f49, f50, f51, f52, f53, f54, f55, f56, f57, f58, f59, f60, f61, f62, f63, f64, f65, f66, f67, f68, f69, f70, f71, f72, f73, f74, f75, f76, f77, f78, f79, f80, f81, f82, f83, f84, f85, f86, f87, f88, f89, f90, f91, f92, f93, f94, f95, f96, f97, f98, f99, f100], defers := [] } wj := by
  have HB := Lib.hid hb
  have O1 := Lib.hid h1
  have O2 := Lib.hid h2
  have O3 := Lib.hid h3
  have O4 := Lib.hid h4
  have HC := Lib.hid hc
  have HD := Lib.hid hd
  have L1 := Lib.hid l1
  have L2 := Lib.hid l2
  have cap1 : n ≤ c1 := by
    obtain ⟨a', c', e, h1, h2⟩ := h1.shape
    injection e with _ e2 e3
    subst e3
    omega
  have cap2 : n ≤ c2 := by
    obtain ⟨a', c', e, h1, h2⟩ := h2.shape
    injection e with _ e2 e3
    subst e3
    omega
  have cap3 : n ≤ c3 := by
    obtain ⟨a', c', e, h1, h2⟩ := h3.shape
    injection e with _ e2 e3
    subst e3
    omega
  have cap4 : n ≤ c4 := by
    obtain ⟨a', c', e, h1, h2⟩ := h4.shape
    injection e with _ e2 e3
    subst e3
    omega
  clear hb h1 h2 h3 h4 hc hd l1 l2
  conv => arg 2; whnf
  conv => arg 4; zeta
  go_upto_region 8 with fail
  rename_i KX hKX
  have HKX := Lib.hid hKX
  clear hKX
  go_loopw [9] (fun i wr => ∃ k : Nat, k ≤ n ∧ i = .int .i64 k ∧ Below wj.heap.size wj wr) (fun i _ => (n - intOf i).toNat)
  case atStart => exact ⟨0, by omega, rfl, Below.refl _ _⟩
  case round =>
    obtain ⟨k, hk, rfl, hB⟩ := hrel
    have BR := Lib.hid hB
    have K0 := Lib.hid (Kb.nil wr)
    clear hB
    have C7 := Lib.hid (show ∀ W, Below wr.heap.size wr W → Blk W b7 (chA R C P (.slice a1 n c1) (.slice a2 n c2)) 34 from fun W hW => HC.out.below (BR.out.trans (hW.mono BR.out.size)) HC.out.lt)
    have C8 := Lib.hid (show ∀ W, Below wr.heap.size wr W → Blk W b8 (chA R C P (.slice a3 n c3) (.slice a4 n c4)) 38 from fun W hW => HD.out.below (BR.out.trans (hW.mono BR.out.size)) HD.out.lt)
    by_cases hlt : (k : Int) < (n : Int)
    case neg =>
      go_upto_region 8 with fail
      refine wp_region_lit ?_
      refine wpList_val (.int .i64 (k : Nat)) (by rfl) (by go_simp) ?_
      (try simp only [Act.put, List.getElem_toArray, List.getElem_cons_succ, List.getElem_cons_zero, List.setIfInBounds_toArray, List.set_cons_zero, List.set_cons_succ])
      refine wpList_val (.pointer (some ⟨b8, 3, none⟩)) (by rfl) (by go_simp) ?_
      (try simp only [Act.put, List.getElem_toArray, List.getElem_cons_succ, List.getElem_cons_zero, List.setIfInBounds_toArray, List.set_cons_zero, List.set_cons_succ])
      refine wpList_val (.slice a3 n c3) (by rfl) (by have q : wr.cell? ⟨b8, 3, none⟩ = some (.slice a3 n c3) := (C8.out _ K0.out.below).cell 3; go_simp) ?_
      (try simp only [Act.put, List.getElem_toArray, List.getElem_cons_succ, List.getElem_cons_zero, List.setIfInBounds_toArray, List.set_cons_zero, List.set_cons_succ])
      refine wpList_val (.int .i64 (n : Nat)) (by rfl) (by go_simp) ?_
      (try simp only [Act.put, List.getElem_toArray, List.getElem_cons_succ, List.getElem_cons_zero, List.setIfInBounds_toArray, List.set_cons_zero, List.set_cons_succ])
      refine wpList_val (.bool false) (by rfl) (by have q := hlt; go_simp) ?_
      (try simp only [Act.put, List.getElem_toArray, List.getElem_cons_succ, List.getElem_cons_zero, List.setIfInBounds_toArray, List.set_cons_zero, List.set_cons_succ])
      refine wpList_nil ?_
      go_wp2_with fail
      refine HKX.out _ _ ?_
      go_wp2_with fail
      go_ret
      exact ⟨rfl, HB.out.trans (BR.out.mono HB.out.size)⟩
    case pos =>
      obtain ⟨r, er⟩ : ∃ r, m1[k]? = some r := ⟨_, List.getElem?_eq_getElem (by rw [L1.out]; omega)⟩
      obtain ⟨t, et⟩ : ∃ t, m2[k]? = some t := ⟨_, List.getElem?_eq_getElem (by rw [L2.out]; omega)⟩
      have o1 := O1.out
      have o2 := O2.out
      have o3 := O3.out
      have o4 := O4.out
      rw [← L1.out] at o1 o3
      rw [← L2.out] at o2 o4
      obtain ⟨g1, e1, -, -, r1⟩ := Own.elem in_len o1 er
      obtain ⟨g2, e2, -, -, r2⟩ := Own.elem vc_len o2 et
      obtain ⟨g3, e3, -, -, r3⟩ := Own.elem in_len o3 er
      obtain ⟨g4, e4, -, -, r4⟩ := Own.elem vc_len o4 et
      subst e1 e2 e3 e4
      have R1 := Lib.hid (show ∀ W, Below wr.heap.size wr W → W.cell? ⟨g1, k, none⟩ = some (.int .i64 r) from fun W hW => by have h := r1 W (BR.out.trans (hW.mono BR.out.size)) 0 _ rfl; rwa [Nat.mul_one] at h)
      have R3 := Lib.hid (show ∀ W, Below wr.heap.size wr W → W.cell? ⟨g3, k, none⟩ = some (.int .i64 r) from fun W hW => by have h := r3 W (BR.out.trans (hW.mono BR.out.size)) 0 _ rfl; rwa [Nat.mul_one] at h)
      have R2 := Lib.hid (show ∀ W, Below wr.heap.size wr W → W.rangeAt g2 (k * 4) (vcC t) from fun W hW => r2 W (BR.out.trans (hW.mono BR.out.size)))
      have R4 := Lib.hid (show ∀ W, Below wr.heap.size wr W → W.rangeAt g4 (k * 4) (vcC t) from fun W hW => r4 W (BR.out.trans (hW.mono BR.out.size)))
      clear o1 o2 o3 o4 r1 r2 r3 r4 er et
      have hk1 : k ≤ c1 := by omega
      have hk2 : k ≤ c2 := by omega
      have hk3 : k ≤ c3 := by omega
      have hk4 : k ≤ c4 := by omega
      have EQT := Lib.hid (fun W => show (Op.equalIn 10000 44 (vcV t) (vcV t)).run Try.prog W = .ok true W by have h := equal_vc t t W; rwa [eqV_self] at h)
      go_upto_region 8 with fail
      refine wp_region_lit ?_
      refine wpList_val (.int .i64 (k : Nat)) (by rfl) (by go_simp) ?_
      (try simp only [Act.put, List.getElem_toArray, List.getElem_cons_succ, List.getElem_cons_zero, List.setIfInBounds_toArray, List.set_cons_zero, List.set_cons_succ])
      refine wpList_val (.pointer (some ⟨b8, 3, none⟩)) (by rfl) (by go_simp) ?_
      (try simp only [Act.put, List.getElem_toArray, List.getElem_cons_succ, List.getElem_cons_zero, List.setIfInBounds_toArray, List.set_cons_zero, List.set_cons_succ])
      refine wpList_val (.slice (some ⟨g3, 0, none⟩) n c3) (by rfl) (by have q : wr.cell? ⟨b8, 3, none⟩ = some (.slice (some ⟨g3, 0, none⟩) n c3) := (C8.out _ K0.out.below).cell 3; go_simp) ?_
      (try simp only [Act.put, List.getElem_toArray, List.getElem_cons_succ, List.getElem_cons_zero, List.setIfInBounds_toArray, List.set_cons_zero, List.set_cons_succ])
      refine wpList_val (.int .i64 (n : Nat)) (by rfl) (by go_simp) ?_
      (try simp only [Act.put, List.getElem_toArray, List.getElem_cons_succ, List.getElem_cons_zero, List.setIfInBounds_toArray, List.set_cons_zero, List.set_cons_succ])
      refine wpList_val (.bool true) (by rfl) (by have q := hlt; go_simp) ?_
      (try simp only [Act.put, List.getElem_toArray, List.getElem_cons_succ, List.getElem_cons_zero, List.setIfInBounds_toArray, List.set_cons_zero, List.set_cons_succ])
      refine wpList_nil ?_
      go_upto_region 10 with fail
      refine wp_region_lit ?_
      refine wpList_val (.pointer (some ⟨b8, 4, none⟩)) (by rfl) (by go_simp) ?_
      (try simp only [Act.put, List.getElem_toArray, List.getElem_cons_succ, List.getElem_cons_zero, List.setIfInBounds_toArray, List.set_cons_zero, List.set_cons_succ])
      refine wpList_val (.slice (some ⟨g4, 0, none⟩) n c4) (by rfl) (by have q : wr.cell? ⟨b8, 4, none⟩ = some (.slice (some ⟨g4, 0, none⟩) n c4) := (C8.out _ K0.out.below).cell 4; go_simp) ?_
      (try simp only [Act.put, List.getElem_toArray, List.getElem_cons_succ, List.getElem_cons_zero, List.setIfInBounds_toArray, List.set_cons_zero, List.set_cons_succ])
      refine wpList_val (.int .i64 (k : Nat)) (by rfl) (by go_simp) ?_
      (try simp only [Act.put, List.getElem_toArray, List.getElem_cons_succ, List.getElem_cons_zero, List.setIfInBounds_toArray, List.set_cons_zero, List.set_cons_succ])
      refine wpList_val (.pointer (some ⟨g4, k * 4, none⟩)) (by rfl) (by go_simp) ?_
      (try simp only [Act.put, List.getElem_toArray, List.getElem_cons_succ, List.getElem_cons_zero, List.setIfInBounds_toArray, List.set_cons_zero, List.set_cons_succ])
      refine wpList_val (.agg (vcA t)) (by rfl) (run_loadRange 42 _ rfl g4 (k * 4) rfl (vcA t) _ (R4.out _ K0.out.below) Try.underlying42 rfl sizeVr) ?_
      (try simp only [Act.put, List.getElem_toArray, List.getElem_cons_succ, List.getElem_cons_zero, List.setIfInBounds_toArray, List.set_cons_zero, List.set_cons_succ])
      refine kb_alloc K0.out 42 (nil4) rfl z42 (by rfl) ?_
      intro b1 w1 hb1 hk
      have K1 := Lib.hid (show Kb wr [(b1, nil4, 42)] w1 from hk)
      clear hk hb1
      (try simp only [Act.put, List.getElem_toArray, List.getElem_cons_succ, List.getElem_cons_zero, List.setIfInBounds_toArray, List.set_cons_zero, List.set_cons_succ])
      refine kb_row K1.out 0 rfl 42 _ _ (vcA t) rfl rfl rfl rfl (sizeVr) (by rfl) (by kernel_rfl) ?_
      intro w2 hk
      have K2 := Lib.hid (show Kb wr [(b1, vcA t, 42)] w2 from hk)
      clear hk
      (try simp only [Act.put, List.getElem_toArray, List.getElem_cons_succ, List.getElem_cons_zero, List.setIfInBounds_toArray, List.set_cons_zero, List.set_cons_succ])
      refine wpList_nil ?_
      go_upto_region 11 with fail
      refine wp_region_inv (I := fun L ac w' => ac = ChL n k g1 g2 g3 g4 c1 c2 c3 c4 b7 b8 r t f0 f1 f2 f3 u4 f5 f6 f11 f12 f13 f14 f15 f16 f17 f18 f19 f20 f21 f22 f23 f24 f25 f26 f27 f28 f29 f30 f31 f32 f33 f34 f35 f36 f37 f38 f39 f40 f41 f42 f43 f44 f45 f46 f47 f48 f49 f50 f51 f52 f53 f54 f55 f56 f57 f58 f59 f60 u66 u67 u73 u74 u75 u76 u77 u78 u79 u80 u81 u82 u83 u84 u85 u86 u87 u88 u89 u90 u91 u92 u93 u94 u95 u96 u97 u98 u99 u100 b1 L ∧ Kb wr [(b1, vcA t, 42)] w') (by kernel_rfl) (by kernel_rfl) ⟨by kernel_rfl, K2.out.drew⟩ ?_ ?_
      · intro i hi Lx ac w' hI hL haft
        obtain ⟨rfl, hw⟩ := hI
        match i, hi with
        | 0, _ =>
          have g7 : (ChL n k g1 g2 g3 g4 c1 c2 c3 c4 b7 b8 r t f0 f1 f2 f3 u4 f5 f6 f11 f12 f13 f14 f15 f16 f17 f18 f19 f20 f21 f22 f23 f24 f25 f26 f27 f28 f29 f30 f31 f32 f33 f34 f35 f36 f37 f38 f39 f40 f41 f42 f43 f44 f45 f46 f47 f48 f49 f50 f51 f52 f53 f54 f55 f56 f57 f58 f59 f60 u66 u67 u73 u74 u75 u76 u77 u78 u79 u80 u81 u82 u83 u84 u85 u86 u87 u88 u89 u90 u91 u92 u93 u94 u95 u96 u97 u98 u99 u100 b1 Lx).tmps[7]?.getD undef = .pointer (some ⟨b7, 0, none⟩) := by kernel_rfl
          have e7 : (ChL n k g1 g2 g3 g4 c1 c2 c3 c4 b7 b8 r t f0 f1 f2 f3 u4 f5 f6 f11 f12 f13 f14 f15 f16 f17 f18 f19 f20 f21 f22 f23 f24 f25 f26 f27 f28 f29 f30 f31 f32 f33 f34 f35 f36 f37 f38 f39 f40 f41 f42 f43 f44 f45 f46 f47 f48 f49 f50 f51 f52 f53 f54 f55 f56 f57 f58 f59 f60 u66 u67 u73 u74 u75 u76 u77 u78 u79 u80 u81 u82 u83 u84 u85 u86 u87 u88 u89 u90 u91 u92 u93 u94 u95 u96 u97 u98 u99 u100 b1 Lx).eval (.tmp 7) = .pointer (some ⟨b7, 0, none⟩) := by kernel_rfl
          exact i_val rfl (.pointer (some ⟨b7, 3, none⟩)) w' (by rfl) (by go_simp) ⟨by kernel_rfl, hw⟩
        | 1, _ =>
          have h0 := haft 0 (by decide)
          have e73 : (ChL n k g1 g2 g3 g4 c1 c2 c3 c4 b7 b8 r t f0 f1 f2 f3 u4 f5 f6 f11 f12 f13 f14 f15 f16 f17 f18 f19 f20 f21 f22 f23 f24 f25 f26 f27 f28 f29 f30 f31 f32 f33 f34 f35 f36 f37 f38 f39 f40 f41 f42 f43 f44 f45 f46 f47 f48 f49 f50 f51 f52 f53 f54 f55 f56 f57 f58 f59 f60 u66 u67 u73 u74 u75 u76 u77 u78 u79 u80 u81 u82 u83 u84 u85 u86 u87 u88 u89 u90 u91 u92 u93 u94 u95 u96 u97 u98 u99 u100 b1 Lx).eval (.tmp 73) = .pointer (some ⟨b7, 3, none⟩) := by show (bif Lx 0 then _ else _) = _; rw [h0]; rfl
          have g73 : (ChL n k g1 g2 g3 g4 c1 c2 c3 c4 b7 b8 r t f0 f1 f2 f3 u4 f5 f6 f11 f12 f13 f14 f15 f16 f17 f18 f19 f20 f21 f22 f23 f24 f25 f26 f27 f28 f29 f30 f31 f32 f33 f34 f35 f36 f37 f38 f39 f40 f41 f42 f43 f44 f45 f46 f47 f48 f49 f50 f51 f52 f53 f54 f55 f56 f57 f58 f59 f60 u66 u67 u73 u74 u75 u76 u77 u78 u79 u80 u81 u82 u83 u84 u85 u86 u87 u88 u89 u90 u91 u92 u93 u94 u95 u96 u97 u98 u99 u100 b1 Lx).tmps[73]?.getD undef = .pointer (some ⟨b7, 3, none⟩) := by show (bif Lx 0 then _ else _) = _; rw [h0]; rfl
          exact i_val rfl (.slice (some ⟨g1, 0, none⟩) n c1) w' (by rfl) (by have q : w'.cell? ⟨b7, 3, none⟩ = some (.slice (some ⟨g1, 0, none⟩) n c1) := (C7.out _ hw.below).cell 3; go_simp) ⟨by kernel_rfl, hw⟩
        | 2, _ =>
          have g9 : (ChL n k g1 g2 g3 g4 c1 c2 c3 c4 b7 b8 r t f0 f1 f2 f3 u4 f5 f6 f11 f12 f13 f14 f15 f16 f17 f18 f19 f20 f21 f22 f23 f24 f25 f26 f27 f28 f29 f30 f31 f32 f33 f34 f35 f36 f37 f38 f39 f40 f41 f42 f43 f44 f45 f46 f47 f48 f49 f50 f51 f52 f53 f54 f55 f56 f57 f58 f59 f60 u66 u67 u73 u74 u75 u76 u77 u78 u79 u80 u81 u82 u83 u84 u85 u86 u87 u88 u89 u90 u91 u92 u93 u94 u95 u96 u97 u98 u99 u100 b1 Lx).tmps[9]?.getD undef = .int .i64 (k : Nat) := by kernel_rfl
          have e9 : (ChL n k g1 g2 g3 g4 c1 c2 c3 c4 b7 b8 r t f0 f1 f2 f3 u4 f5 f6 f11 f12 f13 f14 f15 f16 f17 f18 f19 f20 f21 f22 f23 f24 f25 f26 f27 f28 f29 f30 f31 f32 f33 f34 f35 f36 f37 f38 f39 f40 f41 f42 f43 f44 f45 f46 f47 f48 f49 f50 f51 f52 f53 f54 f55 f56 f57 f58 f59 f60 u66 u67 u73 u74 u75 u76 u77 u78 u79 u80 u81 u82 u83 u84 u85 u86 u87 u88 u89 u90 u91 u92 u93 u94 u95 u96 u97 u98 u99 u100 b1 Lx).eval (.tmp 9) = .int .i64 (k : Nat) := by kernel_rfl
          exact i_val rfl (.int .i64 (k : Nat)) w' (by rfl) (by go_simp) ⟨by kernel_rfl, hw⟩
        | 3, _ =>
          have h1 := haft 1 (by decide)
          have e74 : (ChL n k g1 g2 g3 g4 c1 c2 c3 c4 b7 b8 r t f0 f1 f2 f3 u4 f5 f6 f11 f12 f13 f14 f15 f16 f17 f18 f19 f20 f21 f22 f23 f24 f25 f26 f27 f28 f29 f30 f31 f32 f33 f34 f35 f36 f37 f38 f39 f40 f41 f42 f43 f44 f45 f46 f47 f48 f49 f50 f51 f52 f53 f54 f55 f56 f57 f58 f59 f60 u66 u67 u73 u74 u75 u76 u77 u78 u79 u80 u81 u82 u83 u84 u85 u86 u87 u88 u89 u90 u91 u92 u93 u94 u95 u96 u97 u98 u99 u100 b1 Lx).eval (.tmp 74) = .slice (some ⟨g1, 0, none⟩) n c1 := by show (bif Lx 1 then _ else _) = _; rw [h1]; rfl
          have g74 : (ChL n k g1 g2 g3 g4 c1 c2 c3 c4 b7 b8 r t f0 f1 f2 f3 u4 f5 f6 f11 f12 f13 f14 f15 f16 f17 f18 f19 f20 f21 f22 f23 f24 f25 f26 f27 f28 f29 f30 f31 f32 f33 f34 f35 f36 f37 f38 f39 f40 f41 f42 f43 f44 f45 f46 f47 f48 f49 f50 f51 f52 f53 f54 f55 f56 f57 f58 f59 f60 u66 u67 u73 u74 u75 u76 u77 u78 u79 u80 u81 u82 u83 u84 u85 u86 u87 u88 u89 u90 u91 u92 u93 u94 u95 u96 u97 u98 u99 u100 b1 Lx).tmps[74]?.getD undef = .slice (some ⟨g1, 0, none⟩) n c1 := by show (bif Lx 1 then _ else _) = _; rw [h1]; rfl
          have h2 := haft 2 (by decide)
          have e75 : (ChL n k g1 g2 g3 g4 c1 c2 c3 c4 b7 b8 r t f0 f1 f2 f3 u4 f5 f6 f11 f12 f13 f14 f15 f16 f17 f18 f19 f20 f21 f22 f23 f24 f25 f26 f27 f28 f29 f30 f31 f32 f33 f34 f35 f36 f37 f38 f39 f40 f41 f42 f43 f44 f45 f46 f47 f48 f49 f50 f51 f52 f53 f54 f55 f56 f57 f58 f59 f60 u66 u67 u73 u74 u75 u76 u77 u78 u79 u80 u81 u82 u83 u84 u85 u86 u87 u88 u89 u90 u91 u92 u93 u94 u95 u96 u97 u98 u99 u100 b1 Lx).eval (.tmp 75) = .int .i64 (k : Nat) := by show (bif Lx 2 then _ else _) = _; rw [h2]; rfl
          have g75 : (ChL n k g1 g2 g3 g4 c1 c2 c3 c4 b7 b8 r t f0 f1 f2 f3 u4 f5 f6 f11 f12 f13 f14 f15 f16 f17 f18 f19 f20 f21 f22 f23 f24 f25 f26 f27 f28 f29 f30 f31 f32 f33 f34 f35 f36 f37 f38 f39 f40 f41 f42 f43 f44 f45 f46 f47 f48 f49 f50 f51 f52 f53 f54 f55 f56 f57 f58 f59 f60 u66 u67 u73 u74 u75 u76 u77 u78 u79 u80 u81 u82 u83 u84 u85 u86 u87 u88 u89 u90 u91 u92 u93 u94 u95 u96 u97 u98 u99 u100 b1 Lx).tmps[75]?.getD undef = .int .i64 (k : Nat) := by show (bif Lx 2 then _ else _) = _; rw [h2]; rfl
          exact i_val rfl (.pointer (some ⟨g1, k, none⟩)) w' (by rfl) (by go_simp) ⟨by kernel_rfl, hw⟩
        | 4, _ =>
          have h3 := haft 3 (by decide)
          have e76 : (ChL n k g1 g2 g3 g4 c1 c2 c3 c4 b7 b8 r t f0 f1 f2 f3 u4 f5 f6 f11 f12 f13 f14 f15 f16 f17 f18 f19 f20 f21 f22 f23 f24 f25 f26 f27 f28 f29 f30 f31 f32 f33 f34 f35 f36 f37 f38 f39 f40 f41 f42 f43 f44 f45 f46 f47 f48 f49 f50 f51 f52 f53 f54 f55 f56 f57 f58 f59 f60 u66 u67 u73 u74 u75 u76 u77 u78 u79 u80 u81 u82 u83 u84 u85 u86 u87 u88 u89 u90 u91 u92 u93 u94 u95 u96 u97 u98 u99 u100 b1 Lx).eval (.tmp 76) = .pointer (some ⟨g1, k, none⟩) := by show (bif Lx 3 then _ else _) = _; rw [h3]; rfl
          have g76 : (ChL n k g1 g2 g3 g4 c1 c2 c3 c4 b7 b8 r t f0 f1 f2 f3 u4 f5 f6 f11 f12 f13 f14 f15 f16 f17 f18 f19 f20 f21 f22 f23 f24 f25 f26 f27 f28 f29 f30 f31 f32 f33 f34 f35 f36 f37 f38 f39 f40 f41 f42 f43 f44 f45 f46 f47 f48 f49 f50 f51 f52 f53 f54 f55 f56 f57 f58 f59 f60 u66 u67 u73 u74 u75 u76 u77 u78 u79 u80 u81 u82 u83 u84 u85 u86 u87 u88 u89 u90 u91 u92 u93 u94 u95 u96 u97 u98 u99 u100 b1 Lx).tmps[76]?.getD undef = .pointer (some ⟨g1, k, none⟩) := by show (bif Lx 3 then _ else _) = _; rw [h3]; rfl
          exact i_val rfl (.int .i64 r) w' (by rfl) (by have q := R1.out _ hw.below; go_simp) ⟨by kernel_rfl, hw⟩
        | 5, _ =>
          have g8 : (ChL n k g1 g2 g3 g4 c1 c2 c3 c4 b7 b8 r t f0 f1 f2 f3 u4 f5 f6 f11 f12 f13 f14 f15 f16 f17 f18 f19 f20 f21 f22 f23 f24 f25 f26 f27 f28 f29 f30 f31 f32 f33 f34 f35 f36 f37 f38 f39 f40 f41 f42 f43 f44 f45 f46 f47 f48 f49 f50 f51 f52 f53 f54 f55 f56 f57 f58 f59 f60 u66 u67 u73 u74 u75 u76 u77 u78 u79 u80 u81 u82 u83 u84 u85 u86 u87 u88 u89 u90 u91 u92 u93 u94 u95 u96 u97 u98 u99 u100 b1 Lx).tmps[8]?.getD undef = .pointer (some ⟨b8, 0, none⟩) := by kernel_rfl
          have e8 : (ChL n k g1 g2 g3 g4 c1 c2 c3 c4 b7 b8 r t f0 f1 f2 f3 u4 f5 f6 f11 f12 f13 f14 f15 f16 f17 f18 f19 f20 f21 f22 f23 f24 f25 f26 f27 f28 f29 f30 f31 f32 f33 f34 f35 f36 f37 f38 f39 f40 f41 f42 f43 f44 f45 f46 f47 f48 f49 f50 f51 f52 f53 f54 f55 f56 f57 f58 f59 f60 u66 u67 u73 u74 u75 u76 u77 u78 u79 u80 u81 u82 u83 u84 u85 u86 u87 u88 u89 u90 u91 u92 u93 u94 u95 u96 u97 u98 u99 u100 b1 Lx).eval (.tmp 8) = .pointer (some ⟨b8, 0, none⟩) := by kernel_rfl
          exact i_val rfl (.pointer (some ⟨b8, 3, none⟩)) w' (by rfl) (by go_simp) ⟨by kernel_rfl, hw⟩
        | 6, _ =>
          have h5 := haft 5 (by decide)
          have e78 : (ChL n k g1 g2 g3 g4 c1 c2 c3 c4 b7 b8 r t f0 f1 f2 f3 u4 f5 f6 f11 f12 f13 f14 f15 f16 f17 f18 f19 f20 f21 f22 f23 f24 f25 f26 f27 f28 f29 f30 f31 f32 f33 f34 f35 f36 f37 f38 f39 f40 f41 f42 f43 f44 f45 f46 f47 f48 f49 f50 f51 f52 f53 f54 f55 f56 f57 f58 f59 f60 u66 u67 u73 u74 u75 u76 u77 u78 u79 u80 u81 u82 u83 u84 u85 u86 u87 u88 u89 u90 u91 u92 u93 u94 u95 u96 u97 u98 u99 u100 b1 Lx).eval (.tmp 78) = .pointer (some ⟨b8, 3, none⟩) := by show (bif Lx 5 then _ else _) = _; rw [h5]; rfl
          have g78 : (ChL n k g1 g2 g3 g4 c1 c2 c3 c4 b7 b8 r t f0 f1 f2 f3 u4 f5 f6 f11 f12 f13 f14 f15 f16 f17 f18 f19 f20 f21 f22 f23 f24 f25 f26 f27 f28 f29 f30 f31 f32 f33 f34 f35 f36 f37 f38 f39 f40 f41 f42 f43 f44 f45 f46 f47 f48 f49 f50 f51 f52 f53 f54 f55 f56 f57 f58 f59 f60 u66 u67 u73 u74 u75 u76 u77 u78 u79 u80 u81 u82 u83 u84 u85 u86 u87 u88 u89 u90 u91 u92 u93 u94 u95 u96 u97 u98 u99 u100 b1 Lx).tmps[78]?.getD undef = .pointer (some ⟨b8, 3, none⟩) := by show (bif Lx 5 then _ else _) = _; rw [h5]; rfl
          exact i_val rfl (.slice (some ⟨g3, 0, none⟩) n c3) w' (by rfl) (by have q : w'.cell? ⟨b8, 3, none⟩ = some (.slice (some ⟨g3, 0, none⟩) n c3) := (C8.out _ hw.below).cell 3; go_simp) ⟨by kernel_rfl, hw⟩
        | 7, _ =>
          have g9 : (ChL n k g1 g2 g3 g4 c1 c2 c3 c4 b7 b8 r t f0 f1 f2 f3 u4 f5 f6 f11 f12 f13 f14 f15 f16 f17 f18 f19 f20 f21 f22 f23 f24 f25 f26 f27 f28 f29 f30 f31 f32 f33 f34 f35 f36 f37 f38 f39 f40 f41 f42 f43 f44 f45 f46 f47 f48 f49 f50 f51 f52 f53 f54 f55 f56 f57 f58 f59 f60 u66 u67 u73 u74 u75 u76 u77 u78 u79 u80 u81 u82 u83 u84 u85 u86 u87 u88 u89 u90 u91 u92 u93 u94 u95 u96 u97 u98 u99 u100 b1 Lx).tmps[9]?.getD undef = .int .i64 (k : Nat) := by kernel_rfl
          have e9 : (ChL n k g1 g2 g3 g4 c1 c2 c3 c4 b7 b8 r t f0 f1 f2 f3 u4 f5 f6 f11 f12 f13 f14 f15 f16 f17 f18 f19 f20 f21 f22 f23 f24 f25 f26 f27 f28 f29 f30 f31 f32 f33 f34 f35 f36 f37 f38 f39 f40 f41 f42 f43 f44 f45 f46 f47 f48 f49 f50 f51 f52 f53 f54 f55 f56 f57 f58 f59 f60 u66 u67 u73 u74 u75 u76 u77 u78 u79 u80 u81 u82 u83 u84 u85 u86 u87 u88 u89 u90 u91 u92 u93 u94 u95 u96 u97 u98 u99 u100 b1 Lx).eval (.tmp 9) = .int .i64 (k : Nat) := by kernel_rfl
          exact i_val rfl (.int .i64 (k : Nat)) w' (by rfl) (by go_simp) ⟨by kernel_rfl, hw⟩
        | 8, _ =>
          have h6 := haft 6 (by decide)
          have e79 : (ChL n k g1 g2 g3 g4 c1 c2 c3 c4 b7 b8 r t f0 f1 f2 f3 u4 f5 f6 f11 f12 f13 f14 f15 f16 f17 f18 f19 f20 f21 f22 f23 f24 f25 f26 f27 f28 f29 f30 f31 f32 f33 f34 f35 f36 f37 f38 f39 f40 f41 f42 f43 f44 f45 f46 f47 f48 f49 f50 f51 f52 f53 f54 f55 f56 f57 f58 f59 f60 u66 u67 u73 u74 u75 u76 u77 u78 u79 u80 u81 u82 u83 u84 u85 u86 u87 u88 u89 u90 u91 u92 u93 u94 u95 u96 u97 u98 u99 u100 b1 Lx).eval (.tmp 79) = .slice (some ⟨g3, 0, none⟩) n c3 := by show (bif Lx 6 then _ else _) = _; rw [h6]; rfl
          have g79 : (ChL n k g1 g2 g3 g4 c1 c2 c3 c4 b7 b8 r t f0 f1 f2 f3 u4 f5 f6 f11 f12 f13 f14 f15 f16 f17 f18 f19 f20 f21 f22 f23 f24 f25 f26 f27 f28 f29 f30 f31 f32 f33 f34 f35 f36 f37 f38 f39 f40 f41 f42 f43 f44 f45 f46 f47 f48 f49 f50 f51 f52 f53 f54 f55 f56 f57 f58 f59 f60 u66 u67 u73 u74 u75 u76 u77 u78 u79 u80 u81 u82 u83 u84 u85 u86 u87 u88 u89 u90 u91 u92 u93 u94 u95 u96 u97 u98 u99 u100 b1 Lx).tmps[79]?.getD undef = .slice (some ⟨g3, 0, none⟩) n c3 := by show (bif Lx 6 then _ else _) = _; rw [h6]; rfl
          have h7 := haft 7 (by decide)
          have e80 : (ChL n k g1 g2 g3 g4 c1 c2 c3 c4 b7 b8 r t f0 f1 f2 f3 u4 f5 f6 f11 f12 f13 f14 f15 f16 f17 f18 f19 f20 f21 f22 f23 f24 f25 f26 f27 f28 f29 f30 f31 f32 f33 f34 f35 f36 f37 f38 f39 f40 f41 f42 f43 f44 f45 f46 f47 f48 f49 f50 f51 f52 f53 f54 f55 f56 f57 f58 f59 f60 u66 u67 u73 u74 u75 u76 u77 u78 u79 u80 u81 u82 u83 u84 u85 u86 u87 u88 u89 u90 u91 u92 u93 u94 u95 u96 u97 u98 u99 u100 b1 Lx).eval (.tmp 80) = .int .i64 (k : Nat) := by show (bif Lx 7 then _ else _) = _; rw [h7]; rfl
          have g80 : (ChL n k g1 g2 g3 g4 c1 c2 c3 c4 b7 b8 r t f0 f1 f2 f3 u4 f5 f6 f11 f12 f13 f14 f15 f16 f17 f18 f19 f20 f21 f22 f23 f24 f25 f26 f27 f28 f29 f30 f31 f32 f33 f34 f35 f36 f37 f38 f39 f40 f41 f42 f43 f44 f45 f46 f47 f48 f49 f50 f51 f52 f53 f54 f55 f56 f57 f58 f59 f60 u66 u67 u73 u74 u75 u76 u77 u78 u79 u80 u81 u82 u83 u84 u85 u86 u87 u88 u89 u90 u91 u92 u93 u94 u95 u96 u97 u98 u99 u100 b1 Lx).tmps[80]?.getD undef = .int .i64 (k : Nat) := by show (bif Lx 7 then _ else _) = _; rw [h7]; rfl
          exact i_val rfl (.pointer (some ⟨g3, k, none⟩)) w' (by rfl) (by go_simp) ⟨by kernel_rfl, hw⟩
        | 9, _ =>
          have h8 := haft 8 (by decide)
          have e81 : (ChL n k g1 g2 g3 g4 c1 c2 c3 c4 b7 b8 r t f0 f1 f2 f3 u4 f5 f6 f11 f12 f13 f14 f15 f16 f17 f18 f19 f20 f21 f22 f23 f24 f25 f26 f27 f28 f29 f30 f31 f32 f33 f34 f35 f36 f37 f38 f39 f40 f41 f42 f43 f44 f45 f46 f47 f48 f49 f50 f51 f52 f53 f54 f55 f56 f57 f58 f59 f60 u66 u67 u73 u74 u75 u76 u77 u78 u79 u80 u81 u82 u83 u84 u85 u86 u87 u88 u89 u90 u91 u92 u93 u94 u95 u96 u97 u98 u99 u100 b1 Lx).eval (.tmp 81) = .pointer (some ⟨g3, k, none⟩) := by show (bif Lx 8 then _ else _) = _; rw [h8]; rfl
          have g81 : (ChL n k g1 g2 g3 g4 c1 c2 c3 c4 b7 b8 r t f0 f1 f2 f3 u4 f5 f6 f11 f12 f13 f14 f15 f16 f17 f18 f19 f20 f21 f22 f23 f24 f25 f26 f27 f28 f29 f30 f31 f32 f33 f34 f35 f36 f37 f38 f39 f40 f41 f42 f43 f44 f45 f46 f47 f48 f49 f50 f51 f52 f53 f54 f55 f56 f57 f58 f59 f60 u66 u67 u73 u74 u75 u76 u77 u78 u79 u80 u81 u82 u83 u84 u85 u86 u87 u88 u89 u90 u91 u92 u93 u94 u95 u96 u97 u98 u99 u100 b1 Lx).tmps[81]?.getD undef = .pointer (some ⟨g3, k, none⟩) := by show (bif Lx 8 then _ else _) = _; rw [h8]; rfl
          exact i_val rfl (.int .i64 r) w' (by rfl) (by have q := R3.out _ hw.below; go_simp) ⟨by kernel_rfl, hw⟩
        | 10, _ =>
          have h4 := haft 4 (by decide)
          have e77 : (ChL n k g1 g2 g3 g4 c1 c2 c3 c4 b7 b8 r t f0 f1 f2 f3 u4 f5 f6 f11 f12 f13 f14 f15 f16 f17 f18 f19 f20 f21 f22 f23 f24 f25 f26 f27 f28 f29 f30 f31 f32 f33 f34 f35 f36 f37 f38 f39 f40 f41 f42 f43 f44 f45 f46 f47 f48 f49 f50 f51 f52 f53 f54 f55 f56 f57 f58 f59 f60 u66 u67 u73 u74 u75 u76 u77 u78 u79 u80 u81 u82 u83 u84 u85 u86 u87 u88 u89 u90 u91 u92 u93 u94 u95 u96 u97 u98 u99 u100 b1 Lx).eval (.tmp 77) = .int .i64 r := by show (bif Lx 4 then _ else _) = _; rw [h4]; rfl
          have g77 : (ChL n k g1 g2 g3 g4 c1 c2 c3 c4 b7 b8 r t f0 f1 f2 f3 u4 f5 f6 f11 f12 f13 f14 f15 f16 f17 f18 f19 f20 f21 f22 f23 f24 f25 f26 f27 f28 f29 f30 f31 f32 f33 f34 f35 f36 f37 f38 f39 f40 f41 f42 f43 f44 f45 f46 f47 f48 f49 f50 f51 f52 f53 f54 f55 f56 f57 f58 f59 f60 u66 u67 u73 u74 u75 u76 u77 u78 u79 u80 u81 u82 u83 u84 u85 u86 u87 u88 u89 u90 u91 u92 u93 u94 u95 u96 u97 u98 u99 u100 b1 Lx).tmps[77]?.getD undef = .int .i64 r := by show (bif Lx 4 then _ else _) = _; rw [h4]; rfl
          have h9 := haft 9 (by decide)
          have e82 : (ChL n k g1 g2 g3 g4 c1 c2 c3 c4 b7 b8 r t f0 f1 f2 f3 u4 f5 f6 f11 f12 f13 f14 f15 f16 f17 f18 f19 f20 f21 f22 f23 f24 f25 f26 f27 f28 f29 f30 f31 f32 f33 f34 f35 f36 f37 f38 f39 f40 f41 f42 f43 f44 f45 f46 f47 f48 f49 f50 f51 f52 f53 f54 f55 f56 f57 f58 f59 f60 u66 u67 u73 u74 u75 u76 u77 u78 u79 u80 u81 u82 u83 u84 u85 u86 u87 u88 u89 u90 u91 u92 u93 u94 u95 u96 u97 u98 u99 u100 b1 Lx).eval (.tmp 82) = .int .i64 r := by show (bif Lx 9 then _ else _) = _; rw [h9]; rfl
          have g82 : (ChL n k g1 g2 g3 g4 c1 c2 c3 c4 b7 b8 r t f0 f1 f2 f3 u4 f5 f6 f11 f12 f13 f14 f15 f16 f17 f18 f19 f20 f21 f22 f23 f24 f25 f26 f27 f28 f29 f30 f31 f32 f33 f34 f35 f36 f37 f38 f39 f40 f41 f42 f43 f44 f45 f46 f47 f48 f49 f50 f51 f52 f53 f54 f55 f56 f57 f58 f59 f60 u66 u67 u73 u74 u75 u76 u77 u78 u79 u80 u81 u82 u83 u84 u85 u86 u87 u88 u89 u90 u91 u92 u93 u94 u95 u96 u97 u98 u99 u100 b1 Lx).tmps[82]?.getD undef = .int .i64 r := by show (bif Lx 9 then _ else _) = _; rw [h9]; rfl
          exact i_val rfl (.bool false) w' (by rfl) (by go_simp) ⟨by kernel_rfl, hw⟩
        | 11, _ =>
          have h10 := haft 10 (by decide)
          have e83 : (ChL n k g1 g2 g3 g4 c1 c2 c3 c4 b7 b8 r t f0 f1 f2 f3 u4 f5 f6 f11 f12 f13 f14 f15 f16 f17 f18 f19 f20 f21 f22 f23 f24 f25 f26 f27 f28 f29 f30 f31 f32 f33 f34 f35 f36 f37 f38 f39 f40 f41 f42 f43 f44 f45 f46 f47 f48 f49 f50 f51 f52 f53 f54 f55 f56 f57 f58 f59 f60 u66 u67 u73 u74 u75 u76 u77 u78 u79 u80 u81 u82 u83 u84 u85 u86 u87 u88 u89 u90 u91 u92 u93 u94 u95 u96 u97 u98 u99 u100 b1 Lx).eval (.tmp 83) = .bool false := by show (bif Lx 10 then _ else _) = _; rw [h10]; rfl
          have g83 : (ChL n k g1 g2 g3 g4 c1 c2 c3 c4 b7 b8 r t f0 f1 f2 f3 u4 f5 f6 f11 f12 f13 f14 f15 f16 f17 f18 f19 f20 f21 f22 f23 f24 f25 f26 f27 f28 f29 f30 f31 f32 f33 f34 f35 f36 f37 f38 f39 f40 f41 f42 f43 f44 f45 f46 f47 f48 f49 f50 f51 f52 f53 f54 f55 f56 f57 f58 f59 f60 u66 u67 u73 u74 u75 u76 u77 u78 u79 u80 u81 u82 u83 u84 u85 u86 u87 u88 u89 u90 u91 u92 u93 u94 u95 u96 u97 u98 u99 u100 b1 Lx).tmps[83]?.getD undef = .bool false := by show (bif Lx 10 then _ else _) = _; rw [h10]; rfl
          exact i_val rfl (.bool false) w' (by rfl) (by go_simp) ⟨by kernel_rfl, hw⟩
        | 12, _ =>
          have g7 : (ChL n k g1 g2 g3 g4 c1 c2 c3 c4 b7 b8 r t f0 f1 f2 f3 u4 f5 f6 f11 f12 f13 f14 f15 f16 f17 f18 f19 f20 f21 f22 f23 f24 f25 f26 f27 f28 f29 f30 f31 f32 f33 f34 f35 f36 f37 f38 f39 f40 f41 f42 f43 f44 f45 f46 f47 f48 f49 f50 f51 f52 f53 f54 f55 f56 f57 f58 f59 f60 u66 u67 u73 u74 u75 u76 u77 u78 u79 u80 u81 u82 u83 u84 u85 u86 u87 u88 u89 u90 u91 u92 u93 u94 u95 u96 u97 u98 u99 u100 b1 Lx).tmps[7]?.getD undef = .pointer (some ⟨b7, 0, none⟩) := by kernel_rfl
          have e7 : (ChL n k g1 g2 g3 g4 c1 c2 c3 c4 b7 b8 r t f0 f1 f2 f3 u4 f5 f6 f11 f12 f13 f14 f15 f16 f17 f18 f19 f20 f21 f22 f23 f24 f25 f26 f27 f28 f29 f30 f31 f32 f33 f34 f35 f36 f37 f38 f39 f40 f41 f42 f43 f44 f45 f46 f47 f48 f49 f50 f51 f52 f53 f54 f55 f56 f57 f58 f59 f60 u66 u67 u73 u74 u75 u76 u77 u78 u79 u80 u81 u82 u83 u84 u85 u86 u87 u88 u89 u90 u91 u92 u93 u94 u95 u96 u97 u98 u99 u100 b1 Lx).eval (.tmp 7) = .pointer (some ⟨b7, 0, none⟩) := by kernel_rfl
          have hg11 := haft 11 (by decide)
          have q84 : (ChL n k g1 g2 g3 g4 c1 c2 c3 c4 b7 b8 r t f0 f1 f2 f3 u4 f5 f6 f11 f12 f13 f14 f15 f16 f17 f18 f19 f20 f21 f22 f23 f24 f25 f26 f27 f28 f29 f30 f31 f32 f33 f34 f35 f36 f37 f38 f39 f40 f41 f42 f43 f44 f45 f46 f47 f48 f49 f50 f51 f52 f53 f54 f55 f56 f57 f58 f59 f60 u66 u67 u73 u74 u75 u76 u77 u78 u79 u80 u81 u82 u83 u84 u85 u86 u87 u88 u89 u90 u91 u92 u93 u94 u95 u96 u97 u98 u99 u100 b1 Lx).tmps[84]? = some (.bool false) := by show some (bif Lx 11 then _ else _) = _; rw [hg11]; rfl
          exact i_val rfl (.pointer (some ⟨b7, 4, none⟩)) w' (wanted_of rfl rfl q84 rfl) (by go_simp) ⟨by kernel_rfl, hw⟩
        | 13, _ =>
          have h12 := haft 12 (by decide)
          have e85 : (ChL n k g1 g2 g3 g4 c1 c2 c3 c4 b7 b8 r t f0 f1 f2 f3 u4 f5 f6 f11 f12 f13 f14 f15 f16 f17 f18 f19 f20 f21 f22 f23 f24 f25 f26 f27 f28 f29 f30 f31 f32 f33 f34 f35 f36 f37 f38 f39 f40 f41 f42 f43 f44 f45 f46 f47 f48 f49 f50 f51 f52 f53 f54 f55 f56 f57 f58 f59 f60 u66 u67 u73 u74 u75 u76 u77 u78 u79 u80 u81 u82 u83 u84 u85 u86 u87 u88 u89 u90 u91 u92 u93 u94 u95 u96 u97 u98 u99 u100 b1 Lx).eval (.tmp 85) = .pointer (some ⟨b7, 4, none⟩) := by show (bif Lx 12 then _ else _) = _; rw [h12]; rfl
          have g85 : (ChL n k g1 g2 g3 g4 c1 c2 c3 c4 b7 b8 r t f0 f1 f2 f3 u4 f5 f6 f11 f12 f13 f14 f15 f16 f17 f18 f19 f20 f21 f22 f23 f24 f25 f26 f27 f28 f29 f30 f31 f32 f33 f34 f35 f36 f37 f38 f39 f40 f41 f42 f43 f44 f45 f46 f47 f48 f49 f50 f51 f52 f53 f54 f55 f56 f57 f58 f59 f60 u66 u67 u73 u74 u75 u76 u77 u78 u79 u80 u81 u82 u83 u84 u85 u86 u87 u88 u89 u90 u91 u92 u93 u94 u95 u96 u97 u98 u99 u100 b1 Lx).tmps[85]?.getD undef = .pointer (some ⟨b7, 4, none⟩) := by show (bif Lx 12 then _ else _) = _; rw [h12]; rfl
          have hg11 := haft 11 (by decide)
          have q84 : (ChL n k g1 g2 g3 g4 c1 c2 c3 c4 b7 b8 r t f0 f1 f2 f3 u4 f5 f6 f11 f12 f13 f14 f15 f16 f17 f18 f19 f20 f21 f22 f23 f24 f25 f26 f27 f28 f29 f30 f31 f32 f33 f34 f35 f36 f37 f38 f39 f40 f41 f42 f43 f44 f45 f46 f47 f48 f49 f50 f51 f52 f53 f54 f55 f56 f57 f58 f59 f60 u66 u67 u73 u74 u75 u76 u77 u78 u79 u80 u81 u82 u83 u84 u85 u86 u87 u88 u89 u90 u91 u92 u93 u94 u95 u96 u97 u98 u99 u100 b1 Lx).tmps[84]? = some (.bool false) := by show some (bif Lx 11 then _ else _) = _; rw [hg11]; rfl
          exact i_val rfl (.slice (some ⟨g2, 0, none⟩) n c2) w' (wanted_of rfl rfl q84 rfl) (by have q : w'.cell? ⟨b7, 4, none⟩ = some (.slice (some ⟨g2, 0, none⟩) n c2) := (C7.out _ hw.below).cell 4; go_simp) ⟨by kernel_rfl, hw⟩
        | 14, _ =>
          have g9 : (ChL n k g1 g2 g3 g4 c1 c2 c3 c4 b7 b8 r t f0 f1 f2 f3 u4 f5 f6 f11 f12 f13 f14 f15 f16 f17 f18 f19 f20 f21 f22 f23 f24 f25 f26 f27 f28 f29 f30 f31 f32 f33 f34 f35 f36 f37 f38 f39 f40 f41 f42 f43 f44 f45 f46 f47 f48 f49 f50 f51 f52 f53 f54 f55 f56 f57 f58 f59 f60 u66 u67 u73 u74 u75 u76 u77 u78 u79 u80 u81 u82 u83 u84 u85 u86 u87 u88 u89 u90 u91 u92 u93 u94 u95 u96 u97 u98 u99 u100 b1 Lx).tmps[9]?.getD undef = .int .i64 (k : Nat) := by kernel_rfl
          have e9 : (ChL n k g1 g2 g3 g4 c1 c2 c3 c4 b7 b8 r t f0 f1 f2 f3 u4 f5 f6 f11 f12 f13 f14 f15 f16 f17 f18 f19 f20 f21 f22 f23 f24 f25 f26 f27 f28 f29 f30 f31 f32 f33 f34 f35 f36 f37 f38 f39 f40 f41 f42 f43 f44 f45 f46 f47 f48 f49 f50 f51 f52 f53 f54 f55 f56 f57 f58 f59 f60 u66 u67 u73 u74 u75 u76 u77 u78 u79 u80 u81 u82 u83 u84 u85 u86 u87 u88 u89 u90 u91 u92 u93 u94 u95 u96 u97 u98 u99 u100 b1 Lx).eval (.tmp 9) = .int .i64 (k : Nat) := by kernel_rfl
          have hg11 := haft 11 (by decide)
          have q84 : (ChL n k g1 g2 g3 g4 c1 c2 c3 c4 b7 b8 r t f0 f1 f2 f3 u4 f5 f6 f11 f12 f13 f14 f15 f16 f17 f18 f19 f20 f21 f22 f23 f24 f25 f26 f27 f28 f29 f30 f31 f32 f33 f34 f35 f36 f37 f38 f39 f40 f41 f42 f43 f44 f45 f46 f47 f48 f49 f50 f51 f52 f53 f54 f55 f56 f57 f58 f59 f60 u66 u67 u73 u74 u75 u76 u77 u78 u79 u80 u81 u82 u83 u84 u85 u86 u87 u88 u89 u90 u91 u92 u93 u94 u95 u96 u97 u98 u99 u100 b1 Lx).tmps[84]? = some (.bool false) := by show some (bif Lx 11 then _ else _) = _; rw [hg11]; rfl
          exact i_val rfl (.int .i64 (k : Nat)) w' (wanted_of rfl rfl q84 rfl) (by go_simp) ⟨by kernel_rfl, hw⟩
        | 15, _ =>
          have h13 := haft 13 (by decide)
          have e86 : (ChL n k g1 g2 g3 g4 c1 c2 c3 c4 b7 b8 r t f0 f1 f2 f3 u4 f5 f6 f11 f12 f13 f14 f15 f16 f17 f18 f19 f20 f21 f22 f23 f24 f25 f26 f27 f28 f29 f30 f31 f32 f33 f34 f35 f36 f37 f38 f39 f40 f41 f42 f43 f44 f45 f46 f47 f48 f49 f50 f51 f52 f53 f54 f55 f56 f57 f58 f59 f60 u66 u67 u73 u74 u75 u76 u77 u78 u79 u80 u81 u82 u83 u84 u85 u86 u87 u88 u89 u90 u91 u92 u93 u94 u95 u96 u97 u98 u99 u100 b1 Lx).eval (.tmp 86) = .slice (some ⟨g2, 0, none⟩) n c2 := by show (bif Lx 13 then _ else _) = _; rw [h13]; rfl
          have g86 : (ChL n k g1 g2 g3 g4 c1 c2 c3 c4 b7 b8 r t f0 f1 f2 f3 u4 f5 f6 f11 f12 f13 f14 f15 f16 f17 f18 f19 f20 f21 f22 f23 f24 f25 f26 f27 f28 f29 f30 f31 f32 f33 f34 f35 f36 f37 f38 f39 f40 f41 f42 f43 f44 f45 f46 f47 f48 f49 f50 f51 f52 f53 f54 f55 f56 f57 f58 f59 f60 u66 u67 u73 u74 u75 u76 u77 u78 u79 u80 u81 u82 u83 u84 u85 u86 u87 u88 u89 u90 u91 u92 u93 u94 u95 u96 u97 u98 u99 u100 b1 Lx).tmps[86]?.getD undef = .slice (some ⟨g2, 0, none⟩) n c2 := by show (bif Lx 13 then _ else _) = _; rw [h13]; rfl
          have h14 := haft 14 (by decide)
          have e87 : (ChL n k g1 g2 g3 g4 c1 c2 c3 c4 b7 b8 r t f0 f1 f2 f3 u4 f5 f6 f11 f12 f13 f14 f15 f16 f17 f18 f19 f20 f21 f22 f23 f24 f25 f26 f27 f28 f29 f30 f31 f32 f33 f34 f35 f36 f37 f38 f39 f40 f41 f42 f43 f44 f45 f46 f47 f48 f49 f50 f51 f52 f53 f54 f55 f56 f57 f58 f59 f60 u66 u67 u73 u74 u75 u76 u77 u78 u79 u80 u81 u82 u83 u84 u85 u86 u87 u88 u89 u90 u91 u92 u93 u94 u95 u96 u97 u98 u99 u100 b1 Lx).eval (.tmp 87) = .int .i64 (k : Nat) := by show (bif Lx 14 then _ else _) = _; rw [h14]; rfl
          have g87 : (ChL n k g1 g2 g3 g4 c1 c2 c3 c4 b7 b8 r t f0 f1 f2 f3 u4 f5 f6 f11 f12 f13 f14 f15 f16 f17 f18 f19 f20 f21 f22 f23 f24 f25 f26 f27 f28 f29 f30 f31 f32 f33 f34 f35 f36 f37 f38 f39 f40 f41 f42 f43 f44 f45 f46 f47 f48 f49 f50 f51 f52 f53 f54 f55 f56 f57 f58 f59 f60 u66 u67 u73 u74 u75 u76 u77 u78 u79 u80 u81 u82 u83 u84 u85 u86 u87 u88 u89 u90 u91 u92 u93 u94 u95 u96 u97 u98 u99 u100 b1 Lx).tmps[87]?.getD undef = .int .i64 (k : Nat) := by show (bif Lx 14 then _ else _) = _; rw [h14]; rfl
          have hg11 := haft 11 (by decide)
          have q84 : (ChL n k g1 g2 g3 g4 c1 c2 c3 c4 b7 b8 r t f0 f1 f2 f3 u4 f5 f6 f11 f12 f13 f14 f15 f16 f17 f18 f19 f20 f21 f22 f23 f24 f25 f26 f27 f28 f29 f30 f31 f32 f33 f34 f35 f36 f37 f38 f39 f40 f41 f42 f43 f44 f45 f46 f47 f48 f49 f50 f51 f52 f53 f54 f55 f56 f57 f58 f59 f60 u66 u67 u73 u74 u75 u76 u77 u78 u79 u80 u81 u82 u83 u84 u85 u86 u87 u88 u89 u90 u91 u92 u93 u94 u95 u96 u97 u98 u99 u100 b1 Lx).tmps[84]? = some (.bool false) := by show some (bif Lx 11 then _ else _) = _; rw [hg11]; rfl
          exact i_val rfl (.pointer (some ⟨g2, k * 4, none⟩)) w' (wanted_of rfl rfl q84 rfl) (by go_simp) ⟨by kernel_rfl, hw⟩
        | 16, _ =>
          have h15 := haft 15 (by decide)
          have e88 : (ChL n k g1 g2 g3 g4 c1 c2 c3 c4 b7 b8 r t f0 f1 f2 f3 u4 f5 f6 f11 f12 f13 f14 f15 f16 f17 f18 f19 f20 f21 f22 f23 f24 f25 f26 f27 f28 f29 f30 f31 f32 f33 f34 f35 f36 f37 f38 f39 f40 f41 f42 f43 f44 f45 f46 f47 f48 f49 f50 f51 f52 f53 f54 f55 f56 f57 f58 f59 f60 u66 u67 u73 u74 u75 u76 u77 u78 u79 u80 u81 u82 u83 u84 u85 u86 u87 u88 u89 u90 u91 u92 u93 u94 u95 u96 u97 u98 u99 u100 b1 Lx).eval (.tmp 88) = .pointer (some ⟨g2, k * 4, none⟩) := by show (bif Lx 15 then _ else _) = _; rw [h15]; rfl
          have g88 : (ChL n k g1 g2 g3 g4 c1 c2 c3 c4 b7 b8 r t f0 f1 f2 f3 u4 f5 f6 f11 f12 f13 f14 f15 f16 f17 f18 f19 f20 f21 f22 f23 f24 f25 f26 f27 f28 f29 f30 f31 f32 f33 f34 f35 f36 f37 f38 f39 f40 f41 f42 f43 f44 f45 f46 f47 f48 f49 f50 f51 f52 f53 f54 f55 f56 f57 f58 f59 f60 u66 u67 u73 u74 u75 u76 u77 u78 u79 u80 u81 u82 u83 u84 u85 u86 u87 u88 u89 u90 u91 u92 u93 u94 u95 u96 u97 u98 u99 u100 b1 Lx).tmps[88]?.getD undef = .pointer (some ⟨g2, k * 4, none⟩) := by show (bif Lx 15 then _ else _) = _; rw [h15]; rfl
          have hg11 := haft 11 (by decide)
          have q84 : (ChL n k g1 g2 g3 g4 c1 c2 c3 c4 b7 b8 r t f0 f1 f2 f3 u4 f5 f6 f11 f12 f13 f14 f15 f16 f17 f18 f19 f20 f21 f22 f23 f24 f25 f26 f27 f28 f29 f30 f31 f32 f33 f34 f35 f36 f37 f38 f39 f40 f41 f42 f43 f44 f45 f46 f47 f48 f49 f50 f51 f52 f53 f54 f55 f56 f57 f58 f59 f60 u66 u67 u73 u74 u75 u76 u77 u78 u79 u80 u81 u82 u83 u84 u85 u86 u87 u88 u89 u90 u91 u92 u93 u94 u95 u96 u97 u98 u99 u100 b1 Lx).tmps[84]? = some (.bool false) := by show some (bif Lx 11 then _ else _) = _; rw [hg11]; rfl
          exact i_val rfl (.agg (vcA t)) w' (wanted_of rfl rfl q84 rfl) (run_loadRange 44 _ rfl g2 (k * 4) e88 (vcA t) _ (R2.out _ hw.below) Try.underlying44 rfl sizeV) ⟨by kernel_rfl, hw⟩
        | 17, _ =>
          have g10 : (ChL n k g1 g2 g3 g4 c1 c2 c3 c4 b7 b8 r t f0 f1 f2 f3 u4 f5 f6 f11 f12 f13 f14 f15 f16 f17 f18 f19 f20 f21 f22 f23 f24 f25 f26 f27 f28 f29 f30 f31 f32 f33 f34 f35 f36 f37 f38 f39 f40 f41 f42 f43 f44 f45 f46 f47 f48 f49 f50 f51 f52 f53 f54 f55 f56 f57 f58 f59 f60 u66 u67 u73 u74 u75 u76 u77 u78 u79 u80 u81 u82 u83 u84 u85 u86 u87 u88 u89 u90 u91 u92 u93 u94 u95 u96 u97 u98 u99 u100 b1 Lx).tmps[10]?.getD undef = .pointer (some ⟨b1, 0, none⟩) := by kernel_rfl
          have e10 : (ChL n k g1 g2 g3 g4 c1 c2 c3 c4 b7 b8 r t f0 f1 f2 f3 u4 f5 f6 f11 f12 f13 f14 f15 f16 f17 f18 f19 f20 f21 f22 f23 f24 f25 f26 f27 f28 f29 f30 f31 f32 f33 f34 f35 f36 f37 f38 f39 f40 f41 f42 f43 f44 f45 f46 f47 f48 f49 f50 f51 f52 f53 f54 f55 f56 f57 f58 f59 f60 u66 u67 u73 u74 u75 u76 u77 u78 u79 u80 u81 u82 u83 u84 u85 u86 u87 u88 u89 u90 u91 u92 u93 u94 u95 u96 u97 u98 u99 u100 b1 Lx).eval (.tmp 10) = .pointer (some ⟨b1, 0, none⟩) := by kernel_rfl
          have hg11 := haft 11 (by decide)
          have q84 : (ChL n k g1 g2 g3 g4 c1 c2 c3 c4 b7 b8 r t f0 f1 f2 f3 u4 f5 f6 f11 f12 f13 f14 f15 f16 f17 f18 f19 f20 f21 f22 f23 f24 f25 f26 f27 f28 f29 f30 f31 f32 f33 f34 f35 f36 f37 f38 f39 f40 f41 f42 f43 f44 f45 f46 f47 f48 f49 f50 f51 f52 f53 f54 f55 f56 f57 f58 f59 f60 u66 u67 u73 u74 u75 u76 u77 u78 u79 u80 u81 u82 u83 u84 u85 u86 u87 u88 u89 u90 u91 u92 u93 u94 u95 u96 u97 u98 u99 u100 b1 Lx).tmps[84]? = some (.bool false) := by show some (bif Lx 11 then _ else _) = _; rw [hg11]; rfl
          exact i_val rfl (.pointer (some ⟨b1, 0, none⟩)) w' (wanted_of rfl rfl q84 rfl) (by go_simp) ⟨by kernel_rfl, hw⟩
        | 18, _ =>
          have h17 := haft 17 (by decide)
          have e90 : (ChL n k g1 g2 g3 g4 c1 c2 c3 c4 b7 b8 r t f0 f1 f2 f3 u4 f5 f6 f11 f12 f13 f14 f15 f16 f17 f18 f19 f20 f21 f22 f23 f24 f25 f26 f27 f28 f29 f30 f31 f32 f33 f34 f35 f36 f37 f38 f39 f40 f41 f42 f43 f44 f45 f46 f47 f48 f49 f50 f51 f52 f53 f54 f55 f56 f57 f58 f59 f60 u66 u67 u73 u74 u75 u76 u77 u78 u79 u80 u81 u82 u83 u84 u85 u86 u87 u88 u89 u90 u91 u92 u93 u94 u95 u96 u97 u98 u99 u100 b1 Lx).eval (.tmp 90) = .pointer (some ⟨b1, 0, none⟩) := by show (bif Lx 17 then _ else _) = _; rw [h17]; rfl
          have g90 : (ChL n k g1 g2 g3 g4 c1 c2 c3 c4 b7 b8 r t f0 f1 f2 f3 u4 f5 f6 f11 f12 f13 f14 f15 f16 f17 f18 f19 f20 f21 f22 f23 f24 f25 f26 f27 f28 f29 f30 f31 f32 f33 f34 f35 f36 f37 f38 f39 f40 f41 f42 f43 f44 f45 f46 f47 f48 f49 f50 f51 f52 f53 f54 f55 f56 f57 f58 f59 f60 u66 u67 u73 u74 u75 u76 u77 u78 u79 u80 u81 u82 u83 u84 u85 u86 u87 u88 u89 u90 u91 u92 u93 u94 u95 u96 u97 u98 u99 u100 b1 Lx).tmps[90]?.getD undef = .pointer (some ⟨b1, 0, none⟩) := by show (bif Lx 17 then _ else _) = _; rw [h17]; rfl
          have hg11 := haft 11 (by decide)
          have q84 : (ChL n k g1 g2 g3 g4 c1 c2 c3 c4 b7 b8 r t f0 f1 f2 f3 u4 f5 f6 f11 f12 f13 f14 f15 f16 f17 f18 f19 f20 f21 f22 f23 f24 f25 f26 f27 f28 f29 f30 f31 f32 f33 f34 f35 f36 f37 f38 f39 f40 f41 f42 f43 f44 f45 f46 f47 f48 f49 f50 f51 f52 f53 f54 f55 f56 f57 f58 f59 f60 u66 u67 u73 u74 u75 u76 u77 u78 u79 u80 u81 u82 u83 u84 u85 u86 u87 u88 u89 u90 u91 u92 u93 u94 u95 u96 u97 u98 u99 u100 b1 Lx).tmps[84]? = some (.bool false) := by show some (bif Lx 11 then _ else _) = _; rw [hg11]; rfl
          exact i_val rfl (.int .u64 (t.r : Nat)) w' (wanted_of rfl rfl q84 rfl) (by have q : w'.cell? ⟨b1, 0, none⟩ = some (.int .u64 (t.r : Nat)) := Kb.cell (i := 0) hw rfl (by rfl); go_simp) ⟨by kernel_rfl, hw⟩
        | 19, _ =>
          have g10 : (ChL n k g1 g2 g3 g4 c1 c2 c3 c4 b7 b8 r t f0 f1 f2 f3 u4 f5 f6 f11 f12 f13 f14 f15 f16 f17 f18 f19 f20 f21 f22 f23 f24 f25 f26 f27 f28 f29 f30 f31 f32 f33 f34 f35 f36 f37 f38 f39 f40 f41 f42 f43 f44 f45 f46 f47 f48 f49 f50 f51 f52 f53 f54 f55 f56 f57 f58 f59 f60 u66 u67 u73 u74 u75 u76 u77 u78 u79 u80 u81 u82 u83 u84 u85 u86 u87 u88 u89 u90 u91 u92 u93 u94 u95 u96 u97 u98 u99 u100 b1 Lx).tmps[10]?.getD undef = .pointer (some ⟨b1, 0, none⟩) := by kernel_rfl
          have e10 : (ChL n k g1 g2 g3 g4 c1 c2 c3 c4 b7 b8 r t f0 f1 f2 f3 u4 f5 f6 f11 f12 f13 f14 f15 f16 f17 f18 f19 f20 f21 f22 f23 f24 f25 f26 f27 f28 f29 f30 f31 f32 f33 f34 f35 f36 f37 f38 f39 f40 f41 f42 f43 f44 f45 f46 f47 f48 f49 f50 f51 f52 f53 f54 f55 f56 f57 f58 f59 f60 u66 u67 u73 u74 u75 u76 u77 u78 u79 u80 u81 u82 u83 u84 u85 u86 u87 u88 u89 u90 u91 u92 u93 u94 u95 u96 u97 u98 u99 u100 b1 Lx).eval (.tmp 10) = .pointer (some ⟨b1, 0, none⟩) := by kernel_rfl
          have hg11 := haft 11 (by decide)
          have q84 : (ChL n k g1 g2 g3 g4 c1 c2 c3 c4 b7 b8 r t f0 f1 f2 f3 u4 f5 f6 f11 f12 f13 f14 f15 f16 f17 f18 f19 f20 f21 f22 f23 f24 f25 f26 f27 f28 f29 f30 f31 f32 f33 f34 f35 f36 f37 f38 f39 f40 f41 f42 f43 f44 f45 f46 f47 f48 f49 f50 f51 f52 f53 f54 f55 f56 f57 f58 f59 f60 u66 u67 u73 u74 u75 u76 u77 u78 u79 u80 u81 u82 u83 u84 u85 u86 u87 u88 u89 u90 u91 u92 u93 u94 u95 u96 u97 u98 u99 u100 b1 Lx).tmps[84]? = some (.bool false) := by show some (bif Lx 11 then _ else _) = _; rw [hg11]; rfl
          exact i_val rfl (.pointer (some ⟨b1, 1, none⟩)) w' (wanted_of rfl rfl q84 rfl) (by go_simp) ⟨by kernel_rfl, hw⟩
        | 20, _ =>
          have h19 := haft 19 (by decide)
          have e92 : (ChL n k g1 g2 g3 g4 c1 c2 c3 c4 b7 b8 r t f0 f1 f2 f3 u4 f5 f6 f11 f12 f13 f14 f15 f16 f17 f18 f19 f20 f21 f22 f23 f24 f25 f26 f27 f28 f29 f30 f31 f32 f33 f34 f35 f36 f37 f38 f39 f40 f41 f42 f43 f44 f45 f46 f47 f48 f49 f50 f51 f52 f53 f54 f55 f56 f57 f58 f59 f60 u66 u67 u73 u74 u75 u76 u77 u78 u79 u80 u81 u82 u83 u84 u85 u86 u87 u88 u89 u90 u91 u92 u93 u94 u95 u96 u97 u98 u99 u100 b1 Lx).eval (.tmp 92) = .pointer (some ⟨b1, 1, none⟩) := by show (bif Lx 19 then _ else _) = _; rw [h19]; rfl
          have g92 : (ChL n k g1 g2 g3 g4 c1 c2 c3 c4 b7 b8 r t f0 f1 f2 f3 u4 f5 f6 f11 f12 f13 f14 f15 f16 f17 f18 f19 f20 f21 f22 f23 f24 f25 f26 f27 f28 f29 f30 f31 f32 f33 f34 f35 f36 f37 f38 f39 f40 f41 f42 f43 f44 f45 f46 f47 f48 f49 f50 f51 f52 f53 f54 f55 f56 f57 f58 f59 f60 u66 u67 u73 u74 u75 u76 u77 u78 u79 u80 u81 u82 u83 u84 u85 u86 u87 u88 u89 u90 u91 u92 u93 u94 u95 u96 u97 u98 u99 u100 b1 Lx).tmps[92]?.getD undef = .pointer (some ⟨b1, 1, none⟩) := by show (bif Lx 19 then _ else _) = _; rw [h19]; rfl
          have hg11 := haft 11 (by decide)
          have q84 : (ChL n k g1 g2 g3 g4 c1 c2 c3 c4 b7 b8 r t f0 f1 f2 f3 u4 f5 f6 f11 f12 f13 f14 f15 f16 f17 f18 f19 f20 f21 f22 f23 f24 f25 f26 f27 f28 f29 f30 f31 f32 f33 f34 f35 f36 f37 f38 f39 f40 f41 f42 f43 f44 f45 f46 f47 f48 f49 f50 f51 f52 f53 f54 f55 f56 f57 f58 f59 f60 u66 u67 u73 u74 u75 u76 u77 u78 u79 u80 u81 u82 u83 u84 u85 u86 u87 u88 u89 u90 u91 u92 u93 u94 u95 u96 u97 u98 u99 u100 b1 Lx).tmps[84]? = some (.bool false) := by show some (bif Lx 11 then _ else _) = _; rw [hg11]; rfl
          exact i_val rfl (.int .u32 (t.c : Nat)) w' (wanted_of rfl rfl q84 rfl) (by have q : w'.cell? ⟨b1, 1, none⟩ = some (.int .u32 (t.c : Nat)) := Kb.cell (i := 0) hw rfl (by rfl); go_simp) ⟨by kernel_rfl, hw⟩
        | 21, _ =>
          have g10 : (ChL n k g1 g2 g3 g4 c1 c2 c3 c4 b7 b8 r t f0 f1 f2 f3 u4 f5 f6 f11 f12 f13 f14 f15 f16 f17 f18 f19 f20 f21 f22 f23 f24 f25 f26 f27 f28 f29 f30 f31 f32 f33 f34 f35 f36 f37 f38 f39 f40 f41 f42 f43 f44 f45 f46 f47 f48 f49 f50 f51 f52 f53 f54 f55 f56 f57 f58 f59 f60 u66 u67 u73 u74 u75 u76 u77 u78 u79 u80 u81 u82 u83 u84 u85 u86 u87 u88 u89 u90 u91 u92 u93 u94 u95 u96 u97 u98 u99 u100 b1 Lx).tmps[10]?.getD undef = .pointer (some ⟨b1, 0, none⟩) := by kernel_rfl
          have e10 : (ChL n k g1 g2 g3 g4 c1 c2 c3 c4 b7 b8 r t f0 f1 f2 f3 u4 f5 f6 f11 f12 f13 f14 f15 f16 f17 f18 f19 f20 f21 f22 f23 f24 f25 f26 f27 f28 f29 f30 f31 f32 f33 f34 f35 f36 f37 f38 f39 f40 f41 f42 f43 f44 f45 f46 f47 f48 f49 f50 f51 f52 f53 f54 f55 f56 f57 f58 f59 f60 u66 u67 u73 u74 u75 u76 u77 u78 u79 u80 u81 u82 u83 u84 u85 u86 u87 u88 u89 u90 u91 u92 u93 u94 u95 u96 u97 u98 u99 u100 b1 Lx).eval (.tmp 10) = .pointer (some ⟨b1, 0, none⟩) := by kernel_rfl
          have hg11 := haft 11 (by decide)
          have q84 : (ChL n k g1 g2 g3 g4 c1 c2 c3 c4 b7 b8 r t f0 f1 f2 f3 u4 f5 f6 f11 f12 f13 f14 f15 f16 f17 f18 f19 f20 f21 f22 f23 f24 f25 f26 f27 f28 f29 f30 f31 f32 f33 f34 f35 f36 f37 f38 f39 f40 f41 f42 f43 f44 f45 f46 f47 f48 f49 f50 f51 f52 f53 f54 f55 f56 f57 f58 f59 f60 u66 u67 u73 u74 u75 u76 u77 u78 u79 u80 u81 u82 u83 u84 u85 u86 u87 u88 u89 u90 u91 u92 u93 u94 u95 u96 u97 u98 u99 u100 b1 Lx).tmps[84]? = some (.bool false) := by show some (bif Lx 11 then _ else _) = _; rw [hg11]; rfl
          exact i_val rfl (.pointer (some ⟨b1, 2, none⟩)) w' (wanted_of rfl rfl q84 rfl) (by go_simp) ⟨by kernel_rfl, hw⟩
        | 22, _ =>
          have h21 := haft 21 (by decide)
          have e94 : (ChL n k g1 g2 g3 g4 c1 c2 c3 c4 b7 b8 r t f0 f1 f2 f3 u4 f5 f6 f11 f12 f13 f14 f15 f16 f17 f18 f19 f20 f21 f22 f23 f24 f25 f26 f27 f28 f29 f30 f31 f32 f33 f34 f35 f36 f37 f38 f39 f40 f41 f42 f43 f44 f45 f46 f47 f48 f49 f50 f51 f52 f53 f54 f55 f56 f57 f58 f59 f60 u66 u67 u73 u74 u75 u76 u77 u78 u79 u80 u81 u82 u83 u84 u85 u86 u87 u88 u89 u90 u91 u92 u93 u94 u95 u96 u97 u98 u99 u100 b1 Lx).eval (.tmp 94) = .pointer (some ⟨b1, 2, none⟩) := by show (bif Lx 21 then _ else _) = _; rw [h21]; rfl
          have g94 : (ChL n k g1 g2 g3 g4 c1 c2 c3 c4 b7 b8 r t f0 f1 f2 f3 u4 f5 f6 f11 f12 f13 f14 f15 f16 f17 f18 f19 f20 f21 f22 f23 f24 f25 f26 f27 f28 f29 f30 f31 f32 f33 f34 f35 f36 f37 f38 f39 f40 f41 f42 f43 f44 f45 f46 f47 f48 f49 f50 f51 f52 f53 f54 f55 f56 f57 f58 f59 f60 u66 u67 u73 u74 u75 u76 u77 u78 u79 u80 u81 u82 u83 u84 u85 u86 u87 u88 u89 u90 u91 u92 u93 u94 u95 u96 u97 u98 u99 u100 b1 Lx).tmps[94]?.getD undef = .pointer (some ⟨b1, 2, none⟩) := by show (bif Lx 21 then _ else _) = _; rw [h21]; rfl
          have hg11 := haft 11 (by decide)
          have q84 : (ChL n k g1 g2 g3 g4 c1 c2 c3 c4 b7 b8 r t f0 f1 f2 f3 u4 f5 f6 f11 f12 f13 f14 f15 f16 f17 f18 f19 f20 f21 f22 f23 f24 f25 f26 f27 f28 f29 f30 f31 f32 f33 f34 f35 f36 f37 f38 f39 f40 f41 f42 f43 f44 f45 f46 f47 f48 f49 f50 f51 f52 f53 f54 f55 f56 f57 f58 f59 f60 u66 u67 u73 u74 u75 u76 u77 u78 u79 u80 u81 u82 u83 u84 u85 u86 u87 u88 u89 u90 u91 u92 u93 u94 u95 u96 u97 u98 u99 u100 b1 Lx).tmps[84]? = some (.bool false) := by show some (bif Lx 11 then _ else _) = _; rw [hg11]; rfl
          exact i_val rfl (.int .u64 (t.b : Nat)) w' (wanted_of rfl rfl q84 rfl) (by have q : w'.cell? ⟨b1, 2, none⟩ = some (.int .u64 (t.b : Nat)) := Kb.cell (i := 0) hw rfl (by rfl); go_simp) ⟨by kernel_rfl, hw⟩
        | 23, _ =>
          have g10 : (ChL n k g1 g2 g3 g4 c1 c2 c3 c4 b7 b8 r t f0 f1 f2 f3 u4 f5 f6 f11 f12 f13 f14 f15 f16 f17 f18 f19 f20 f21 f22 f23 f24 f25 f26 f27 f28 f29 f30 f31 f32 f33 f34 f35 f36 f37 f38 f39 f40 f41 f42 f43 f44 f45 f46 f47 f48 f49 f50 f51 f52 f53 f54 f55 f56 f57 f58 f59 f60 u66 u67 u73 u74 u75 u76 u77 u78 u79 u80 u81 u82 u83 u84 u85 u86 u87 u88 u89 u90 u91 u92 u93 u94 u95 u96 u97 u98 u99 u100 b1 Lx).tmps[10]?.getD undef = .pointer (some ⟨b1, 0, none⟩) := by kernel_rfl
          have e10 : (ChL n k g1 g2 g3 g4 c1 c2 c3 c4 b7 b8 r t f0 f1 f2 f3 u4 f5 f6 f11 f12 f13 f14 f15 f16 f17 f18 f19 f20 f21 f22 f23 f24 f25 f26 f27 f28 f29 f30 f31 f32 f33 f34 f35 f36 f37 f38 f39 f40 f41 f42 f43 f44 f45 f46 f47 f48 f49 f50 f51 f52 f53 f54 f55 f56 f57 f58 f59 f60 u66 u67 u73 u74 u75 u76 u77 u78 u79 u80 u81 u82 u83 u84 u85 u86 u87 u88 u89 u90 u91 u92 u93 u94 u95 u96 u97 u98 u99 u100 b1 Lx).eval (.tmp 10) = .pointer (some ⟨b1, 0, none⟩) := by kernel_rfl
          have hg11 := haft 11 (by decide)
          have q84 : (ChL n k g1 g2 g3 g4 c1 c2 c3 c4 b7 b8 r t f0 f1 f2 f3 u4 f5 f6 f11 f12 f13 f14 f15 f16 f17 f18 f19 f20 f21 f22 f23 f24 f25 f26 f27 f28 f29 f30 f31 f32 f33 f34 f35 f36 f37 f38 f39 f40 f41 f42 f43 f44 f45 f46 f47 f48 f49 f50 f51 f52 f53 f54 f55 f56 f57 f58 f59 f60 u66 u67 u73 u74 u75 u76 u77 u78 u79 u80 u81 u82 u83 u84 u85 u86 u87 u88 u89 u90 u91 u92 u93 u94 u95 u96 u97 u98 u99 u100 b1 Lx).tmps[84]? = some (.bool false) := by show some (bif Lx 11 then _ else _) = _; rw [hg11]; rfl
          exact i_val rfl (.pointer (some ⟨b1, 3, none⟩)) w' (wanted_of rfl rfl q84 rfl) (by go_simp) ⟨by kernel_rfl, hw⟩
        | 24, _ =>
          have h23 := haft 23 (by decide)
          have e96 : (ChL n k g1 g2 g3 g4 c1 c2 c3 c4 b7 b8 r t f0 f1 f2 f3 u4 f5 f6 f11 f12 f13 f14 f15 f16 f17 f18 f19 f20 f21 f22 f23 f24 f25 f26 f27 f28 f29 f30 f31 f32 f33 f34 f35 f36 f37 f38 f39 f40 f41 f42 f43 f44 f45 f46 f47 f48 f49 f50 f51 f52 f53 f54 f55 f56 f57 f58 f59 f60 u66 u67 u73 u74 u75 u76 u77 u78 u79 u80 u81 u82 u83 u84 u85 u86 u87 u88 u89 u90 u91 u92 u93 u94 u95 u96 u97 u98 u99 u100 b1 Lx).eval (.tmp 96) = .pointer (some ⟨b1, 3, none⟩) := by show (bif Lx 23 then _ else _) = _; rw [h23]; rfl
          have g96 : (ChL n k g1 g2 g3 g4 c1 c2 c3 c4 b7 b8 r t f0 f1 f2 f3 u4 f5 f6 f11 f12 f13 f14 f15 f16 f17 f18 f19 f20 f21 f22 f23 f24 f25 f26 f27 f28 f29 f30 f31 f32 f33 f34 f35 f36 f37 f38 f39 f40 f41 f42 f43 f44 f45 f46 f47 f48 f49 f50 f51 f52 f53 f54 f55 f56 f57 f58 f59 f60 u66 u67 u73 u74 u75 u76 u77 u78 u79 u80 u81 u82 u83 u84 u85 u86 u87 u88 u89 u90 u91 u92 u93 u94 u95 u96 u97 u98 u99 u100 b1 Lx).tmps[96]?.getD undef = .pointer (some ⟨b1, 3, none⟩) := by show (bif Lx 23 then _ else _) = _; rw [h23]; rfl
          have hg11 := haft 11 (by decide)
          have q84 : (ChL n k g1 g2 g3 g4 c1 c2 c3 c4 b7 b8 r t f0 f1 f2 f3 u4 f5 f6 f11 f12 f13 f14 f15 f16 f17 f18 f19 f20 f21 f22 f23 f24 f25 f26 f27 f28 f29 f30 f31 f32 f33 f34 f35 f36 f37 f38 f39 f40 f41 f42 f43 f44 f45 f46 f47 f48 f49 f50 f51 f52 f53 f54 f55 f56 f57 f58 f59 f60 u66 u67 u73 u74 u75 u76 u77 u78 u79 u80 u81 u82 u83 u84 u85 u86 u87 u88 u89 u90 u91 u92 u93 u94 u95 u96 u97 u98 u99 u100 b1 Lx).tmps[84]? = some (.bool false) := by show some (bif Lx 11 then _ else _) = _; rw [hg11]; rfl
          exact i_val rfl (.int .u16 (t.p : Nat)) w' (wanted_of rfl rfl q84 rfl) (by have q : w'.cell? ⟨b1, 3, none⟩ = some (.int .u16 (t.p : Nat)) := Kb.cell (i := 0) hw rfl (by rfl); go_simp) ⟨by kernel_rfl, hw⟩
        | 25, _ =>
          have h18 := haft 18 (by decide)
          have e91 : (ChL n k g1 g2 g3 g4 c1 c2 c3 c4 b7 b8 r t f0 f1 f2 f3 u4 f5 f6 f11 f12 f13 f14 f15 f16 f17 f18 f19 f20 f21 f22 f23 f24 f25 f26 f27 f28 f29 f30 f31 f32 f33 f34 f35 f36 f37 f38 f39 f40 f41 f42 f43 f44 f45 f46 f47 f48 f49 f50 f51 f52 f53 f54 f55 f56 f57 f58 f59 f60 u66 u67 u73 u74 u75 u76 u77 u78 u79 u80 u81 u82 u83 u84 u85 u86 u87 u88 u89 u90 u91 u92 u93 u94 u95 u96 u97 u98 u99 u100 b1 Lx).eval (.tmp 91) = .int .u64 (t.r : Nat) := by show (bif Lx 18 then _ else _) = _; rw [h18]; rfl
          have g91 : (ChL n k g1 g2 g3 g4 c1 c2 c3 c4 b7 b8 r t f0 f1 f2 f3 u4 f5 f6 f11 f12 f13 f14 f15 f16 f17 f18 f19 f20 f21 f22 f23 f24 f25 f26 f27 f28 f29 f30 f31 f32 f33 f34 f35 f36 f37 f38 f39 f40 f41 f42 f43 f44 f45 f46 f47 f48 f49 f50 f51 f52 f53 f54 f55 f56 f57 f58 f59 f60 u66 u67 u73 u74 u75 u76 u77 u78 u79 u80 u81 u82 u83 u84 u85 u86 u87 u88 u89 u90 u91 u92 u93 u94 u95 u96 u97 u98 u99 u100 b1 Lx).tmps[91]?.getD undef = .int .u64 (t.r : Nat) := by show (bif Lx 18 then _ else _) = _; rw [h18]; rfl
          have h20 := haft 20 (by decide)
          have e93 : (ChL n k g1 g2 g3 g4 c1 c2 c3 c4 b7 b8 r t f0 f1 f2 f3 u4 f5 f6 f11 f12 f13 f14 f15 f16 f17 f18 f19 f20 f21 f22 f23 f24 f25 f26 f27 f28 f29 f30 f31 f32 f33 f34 f35 f36 f37 f38 f39 f40 f41 f42 f43 f44 f45 f46 f47 f48 f49 f50 f51 f52 f53 f54 f55 f56 f57 f58 f59 f60 u66 u67 u73 u74 u75 u76 u77 u78 u79 u80 u81 u82 u83 u84 u85 u86 u87 u88 u89 u90 u91 u92 u93 u94 u95 u96 u97 u98 u99 u100 b1 Lx).eval (.tmp 93) = .int .u32 (t.c : Nat) := by show (bif Lx 20 then _ else _) = _; rw [h20]; rfl
          have g93 : (ChL n k g1 g2 g3 g4 c1 c2 c3 c4 b7 b8 r t f0 f1 f2 f3 u4 f5 f6 f11 f12 f13 f14 f15 f16 f17 f18 f19 f20 f21 f22 f23 f24 f25 f26 f27 f28 f29 f30 f31 f32 f33 f34 f35 f36 f37 f38 f39 f40 f41 f42 f43 f44 f45 f46 f47 f48 f49 f50 f51 f52 f53 f54 f55 f56 f57 f58 f59 f60 u66 u67 u73 u74 u75 u76 u77 u78 u79 u80 u81 u82 u83 u84 u85 u86 u87 u88 u89 u90 u91 u92 u93 u94 u95 u96 u97 u98 u99 u100 b1 Lx).tmps[93]?.getD undef = .int .u32 (t.c : Nat) := by show (bif Lx 20 then _ else _) = _; rw [h20]; rfl
          have h22 := haft 22 (by decide)
          have e95 : (ChL n k g1 g2 g3 g4 c1 c2 c3 c4 b7 b8 r t f0 f1 f2 f3 u4 f5 f6 f11 f12 f13 f14 f15 f16 f17 f18 f19 f20 f21 f22 f23 f24 f25 f26 f27 f28 f29 f30 f31 f32 f33 f34 f35 f36 f37 f38 f39 f40 f41 f42 f43 f44 f45 f46 f47 f48 f49 f50 f51 f52 f53 f54 f55 f56 f57 f58 f59 f60 u66 u67 u73 u74 u75 u76 u77 u78 u79 u80 u81 u82 u83 u84 u85 u86 u87 u88 u89 u90 u91 u92 u93 u94 u95 u96 u97 u98 u99 u100 b1 Lx).eval (.tmp 95) = .int .u64 (t.b : Nat) := by show (bif Lx 22 then _ else _) = _; rw [h22]; rfl
          have g95 : (ChL n k g1 g2 g3 g4 c1 c2 c3 c4 b7 b8 r t f0 f1 f2 f3 u4 f5 f6 f11 f12 f13 f14 f15 f16 f17 f18 f19 f20 f21 f22 f23 f24 f25 f26 f27 f28 f29 f30 f31 f32 f33 f34 f35 f36 f37 f38 f39 f40 f41 f42 f43 f44 f45 f46 f47 f48 f49 f50 f51 f52 f53 f54 f55 f56 f57 f58 f59 f60 u66 u67 u73 u74 u75 u76 u77 u78 u79 u80 u81 u82 u83 u84 u85 u86 u87 u88 u89 u90 u91 u92 u93 u94 u95 u96 u97 u98 u99 u100 b1 Lx).tmps[95]?.getD undef = .int .u64 (t.b : Nat) := by show (bif Lx 22 then _ else _) = _; rw [h22]; rfl
          have h24 := haft 24 (by decide)
          have e97 : (ChL n k g1 g2 g3 g4 c1 c2 c3 c4 b7 b8 r t f0 f1 f2 f3 u4 f5 f6 f11 f12 f13 f14 f15 f16 f17 f18 f19 f20 f21 f22 f23 f24 f25 f26 f27 f28 f29 f30 f31 f32 f33 f34 f35 f36 f37 f38 f39 f40 f41 f42 f43 f44 f45 f46 f47 f48 f49 f50 f51 f52 f53 f54 f55 f56 f57 f58 f59 f60 u66 u67 u73 u74 u75 u76 u77 u78 u79 u80 u81 u82 u83 u84 u85 u86 u87 u88 u89 u90 u91 u92 u93 u94 u95 u96 u97 u98 u99 u100 b1 Lx).eval (.tmp 97) = .int .u16 (t.p : Nat) := by show (bif Lx 24 then _ else _) = _; rw [h24]; rfl
          have g97 : (ChL n k g1 g2 g3 g4 c1 c2 c3 c4 b7 b8 r t f0 f1 f2 f3 u4 f5 f6 f11 f12 f13 f14 f15 f16 f17 f18 f19 f20 f21 f22 f23 f24 f25 f26 f27 f28 f29 f30 f31 f32 f33 f34 f35 f36 f37 f38 f39 f40 f41 f42 f43 f44 f45 f46 f47 f48 f49 f50 f51 f52 f53 f54 f55 f56 f57 f58 f59 f60 u66 u67 u73 u74 u75 u76 u77 u78 u79 u80 u81 u82 u83 u84 u85 u86 u87 u88 u89 u90 u91 u92 u93 u94 u95 u96 u97 u98 u99 u100 b1 Lx).tmps[97]?.getD undef = .int .u16 (t.p : Nat) := by show (bif Lx 24 then _ else _) = _; rw [h24]; rfl
          have hg11 := haft 11 (by decide)
          have q84 : (ChL n k g1 g2 g3 g4 c1 c2 c3 c4 b7 b8 r t f0 f1 f2 f3 u4 f5 f6 f11 f12 f13 f14 f15 f16 f17 f18 f19 f20 f21 f22 f23 f24 f25 f26 f27 f28 f29 f30 f31 f32 f33 f34 f35 f36 f37 f38 f39 f40 f41 f42 f43 f44 f45 f46 f47 f48 f49 f50 f51 f52 f53 f54 f55 f56 f57 f58 f59 f60 u66 u67 u73 u74 u75 u76 u77 u78 u79 u80 u81 u82 u83 u84 u85 u86 u87 u88 u89 u90 u91 u92 u93 u94 u95 u96 u97 u98 u99 u100 b1 Lx).tmps[84]? = some (.bool false) := by show some (bif Lx 11 then _ else _) = _; rw [hg11]; rfl
          exact i_val rfl (.agg (vcA t)) w' (wanted_of rfl rfl q84 rfl) (run_build_of 44 [(0, .tmp 91), (1, .tmp 93), (2, .tmp 95), (3, .tmp 97)] rfl _ (vcA t) (by simp only [List.map_cons, List.map_nil, e91, e93, e95, e97]; rfl) (by kernel_rfl)) ⟨by kernel_rfl, hw⟩
        | 26, _ =>
          have h16 := haft 16 (by decide)
          have e89 : (ChL n k g1 g2 g3 g4 c1 c2 c3 c4 b7 b8 r t f0 f1 f2 f3 u4 f5 f6 f11 f12 f13 f14 f15 f16 f17 f18 f19 f20 f21 f22 f23 f24 f25 f26 f27 f28 f29 f30 f31 f32 f33 f34 f35 f36 f37 f38 f39 f40 f41 f42 f43 f44 f45 f46 f47 f48 f49 f50 f51 f52 f53 f54 f55 f56 f57 f58 f59 f60 u66 u67 u73 u74 u75 u76 u77 u78 u79 u80 u81 u82 u83 u84 u85 u86 u87 u88 u89 u90 u91 u92 u93 u94 u95 u96 u97 u98 u99 u100 b1 Lx).eval (.tmp 89) = .agg (vcA t) := by show (bif Lx 16 then _ else _) = _; rw [h16]; rfl
          have g89 : (ChL n k g1 g2 g3 g4 c1 c2 c3 c4 b7 b8 r t f0 f1 f2 f3 u4 f5 f6 f11 f12 f13 f14 f15 f16 f17 f18 f19 f20 f21 f22 f23 f24 f25 f26 f27 f28 f29 f30 f31 f32 f33 f34 f35 f36 f37 f38 f39 f40 f41 f42 f43 f44 f45 f46 f47 f48 f49 f50 f51 f52 f53 f54 f55 f56 f57 f58 f59 f60 u66 u67 u73 u74 u75 u76 u77 u78 u79 u80 u81 u82 u83 u84 u85 u86 u87 u88 u89 u90 u91 u92 u93 u94 u95 u96 u97 u98 u99 u100 b1 Lx).tmps[89]?.getD undef = .agg (vcA t) := by show (bif Lx 16 then _ else _) = _; rw [h16]; rfl
          have h25 := haft 25 (by decide)
          have e98 : (ChL n k g1 g2 g3 g4 c1 c2 c3 c4 b7 b8 r t f0 f1 f2 f3 u4 f5 f6 f11 f12 f13 f14 f15 f16 f17 f18 f19 f20 f21 f22 f23 f24 f25 f26 f27 f28 f29 f30 f31 f32 f33 f34 f35 f36 f37 f38 f39 f40 f41 f42 f43 f44 f45 f46 f47 f48 f49 f50 f51 f52 f53 f54 f55 f56 f57 f58 f59 f60 u66 u67 u73 u74 u75 u76 u77 u78 u79 u80 u81 u82 u83 u84 u85 u86 u87 u88 u89 u90 u91 u92 u93 u94 u95 u96 u97 u98 u99 u100 b1 Lx).eval (.tmp 98) = .agg (vcA t) := by show (bif Lx 25 then _ else _) = _; rw [h25]; rfl
          have g98 : (ChL n k g1 g2 g3 g4 c1 c2 c3 c4 b7 b8 r t f0 f1 f2 f3 u4 f5 f6 f11 f12 f13 f14 f15 f16 f17 f18 f19 f20 f21 f22 f23 f24 f25 f26 f27 f28 f29 f30 f31 f32 f33 f34 f35 f36 f37 f38 f39 f40 f41 f42 f43 f44 f45 f46 f47 f48 f49 f50 f51 f52 f53 f54 f55 f56 f57 f58 f59 f60 u66 u67 u73 u74 u75 u76 u77 u78 u79 u80 u81 u82 u83 u84 u85 u86 u87 u88 u89 u90 u91 u92 u93 u94 u95 u96 u97 u98 u99 u100 b1 Lx).tmps[98]?.getD undef = .agg (vcA t) := by show (bif Lx 25 then _ else _) = _; rw [h25]; rfl
          have hg11 := haft 11 (by decide)
          have q84 : (ChL n k g1 g2 g3 g4 c1 c2 c3 c4 b7 b8 r t f0 f1 f2 f3 u4 f5 f6 f11 f12 f13 f14 f15 f16 f17 f18 f19 f20 f21 f22 f23 f24 f25 f26 f27 f28 f29 f30 f31 f32 f33 f34 f35 f36 f37 f38 f39 f40 f41 f42 f43 f44 f45 f46 f47 f48 f49 f50 f51 f52 f53 f54 f55 f56 f57 f58 f59 f60 u66 u67 u73 u74 u75 u76 u77 u78 u79 u80 u81 u82 u83 u84 u85 u86 u87 u88 u89 u90 u91 u92 u93 u94 u95 u96 u97 u98 u99 u100 b1 Lx).tmps[84]? = some (.bool false) := by show some (bif Lx 11 then _ else _) = _; rw [hg11]; rfl
          exact i_val rfl (.bool false) w' (wanted_of rfl rfl q84 rfl) (by have q := EQT.out; go_simp) ⟨by kernel_rfl, hw⟩
        | 27, _ =>
          have h11 := haft 11 (by decide)
          have e84 : (ChL n k g1 g2 g3 g4 c1 c2 c3 c4 b7 b8 r t f0 f1 f2 f3 u4 f5 f6 f11 f12 f13 f14 f15 f16 f17 f18 f19 f20 f21 f22 f23 f24 f25 f26 f27 f28 f29 f30 f31 f32 f33 f34 f35 f36 f37 f38 f39 f40 f41 f42 f43 f44 f45 f46 f47 f48 f49 f50 f51 f52 f53 f54 f55 f56 f57 f58 f59 f60 u66 u67 u73 u74 u75 u76 u77 u78 u79 u80 u81 u82 u83 u84 u85 u86 u87 u88 u89 u90 u91 u92 u93 u94 u95 u96 u97 u98 u99 u100 b1 Lx).eval (.tmp 84) = .bool false := by show (bif Lx 11 then _ else _) = _; rw [h11]; rfl
          have g84 : (ChL n k g1 g2 g3 g4 c1 c2 c3 c4 b7 b8 r t f0 f1 f2 f3 u4 f5 f6 f11 f12 f13 f14 f15 f16 f17 f18 f19 f20 f21 f22 f23 f24 f25 f26 f27 f28 f29 f30 f31 f32 f33 f34 f35 f36 f37 f38 f39 f40 f41 f42 f43 f44 f45 f46 f47 f48 f49 f50 f51 f52 f53 f54 f55 f56 f57 f58 f59 f60 u66 u67 u73 u74 u75 u76 u77 u78 u79 u80 u81 u82 u83 u84 u85 u86 u87 u88 u89 u90 u91 u92 u93 u94 u95 u96 u97 u98 u99 u100 b1 Lx).tmps[84]?.getD undef = .bool false := by show (bif Lx 11 then _ else _) = _; rw [h11]; rfl
          have h26 := haft 26 (by decide)
          have e99 : (ChL n k g1 g2 g3 g4 c1 c2 c3 c4 b7 b8 r t f0 f1 f2 f3 u4 f5 f6 f11 f12 f13 f14 f15 f16 f17 f18 f19 f20 f21 f22 f23 f24 f25 f26 f27 f28 f29 f30 f31 f32 f33 f34 f35 f36 f37 f38 f39 f40 f41 f42 f43 f44 f45 f46 f47 f48 f49 f50 f51 f52 f53 f54 f55 f56 f57 f58 f59 f60 u66 u67 u73 u74 u75 u76 u77 u78 u79 u80 u81 u82 u83 u84 u85 u86 u87 u88 u89 u90 u91 u92 u93 u94 u95 u96 u97 u98 u99 u100 b1 Lx).eval (.tmp 99) = .bool false := by show (bif Lx 26 then _ else _) = _; rw [h26]; rfl
          have g99 : (ChL n k g1 g2 g3 g4 c1 c2 c3 c4 b7 b8 r t f0 f1 f2 f3 u4 f5 f6 f11 f12 f13 f14 f15 f16 f17 f18 f19 f20 f21 f22 f23 f24 f25 f26 f27 f28 f29 f30 f31 f32 f33 f34 f35 f36 f37 f38 f39 f40 f41 f42 f43 f44 f45 f46 f47 f48 f49 f50 f51 f52 f53 f54 f55 f56 f57 f58 f59 f60 u66 u67 u73 u74 u75 u76 u77 u78 u79 u80 u81 u82 u83 u84 u85 u86 u87 u88 u89 u90 u91 u92 u93 u94 u95 u96 u97 u98 u99 u100 b1 Lx).tmps[99]?.getD undef = .bool false := by show (bif Lx 26 then _ else _) = _; rw [h26]; rfl
          exact i_val rfl (.bool false) w' (by rfl) (run_pick_no (.tmp 84) (.const (.bool true)) (.tmp 99) _ rfl e84 e99) ⟨by kernel_rfl, hw⟩
        | k + 28, h =>
          exfalso
          have h2 : k + 28 < 28 := h
          omega
      intro Lx ac w3 hI hall
      obtain ⟨rfl, hw⟩ := hI
      have hfr : ChL n k g1 g2 g3 g4 c1 c2 c3 c4 b7 b8 r t f0 f1 f2 f3 u4 f5 f6 f11 f12 f13 f14 f15 f16 f17 f18 f19 f20 f21 f22 f23 f24 f25 f26 f27 f28 f29 f30 f31 f32 f33 f34 f35 f36 f37 f38 f39 f40 f41 f42 f43 f44 f45 f46 f47 f48 f49 f50 f51 f52 f53 f54 f55 f56 f57 f58 f59 f60 u66 u67 u73 u74 u75 u76 u77 u78 u79 u80 u81 u82 u83 u84 u85 u86 u87 u88 u89 u90 u91 u92 u93 u94 u95 u96 u97 u98 u99 u100 b1 Lx = { tmps := #[f0, f1, f2, f3, u4, f5, f6, .pointer (some ⟨b7, 0, none⟩), .pointer (some ⟨b8, 0, none⟩), .int .i64 (k : Nat), .pointer (some ⟨b1, 0, none⟩), f11, f12, f13, f14, f15, f16, f17, f18, f19, f20, f21, f22, f23, f24, f25, f26, f27, f28, f29, f30, f31, f32, f33, f34, f35, f36, f37, f38, f39, f40, f41, f42, f43, f44, f45, f46, f47, f48, f49, f50, f51, f52, f53, f54, f55, f56, f57, f58, f59, f60, .int .i64 (k : Nat), .pointer (some ⟨b8, 3, none⟩), .slice (some ⟨g3, 0, none⟩) n c3, .int .i64 (n : Nat), .bool true, u66, u67, .pointer (some ⟨b8, 4, none⟩), .slice (some ⟨g4, 0, none⟩) n c4, .int .i64 (k : Nat), .pointer (some ⟨g4, k * 4, none⟩), .agg (vcA t), .pointer (some ⟨b7, 3, none⟩), .slice (some ⟨g1, 0, none⟩) n c1, .int .i64 (k : Nat), .pointer (some ⟨g1, k, none⟩), .int .i64 r, .pointer (some ⟨b8, 3, none⟩), .slice (some ⟨g3, 0, none⟩) n c3, .int .i64 (k : Nat), .pointer (some ⟨g3, k, none⟩), .int .i64 r, .bool false, .bool false, .pointer (some ⟨b7, 4, none⟩), .slice (some ⟨g2, 0, none⟩) n c2, .int .i64 (k : Nat), .pointer (some ⟨g2, k * 4, none⟩), .agg (vcA t), .pointer (some ⟨b1, 0, none⟩), .int .u64 (t.r : Nat), .pointer (some ⟨b1, 1, none⟩), .int .u32 (t.c : Nat), .pointer (some ⟨b1, 2, none⟩), .int .u64 (t.b : Nat), .pointer (some ⟨b1, 3, none⟩), .int .u16 (t.p : Nat), .agg (vcA t), .bool false, .bool false], defers := [] } := by unfold ChL; simp only [hall 0 (by decide), hall 1 (by decide), hall 2 (by decide), hall 3 (by decide), hall 4 (by decide), hall 5 (by decide), hall 6 (by decide), hall 7 (by decide), hall 8 (by decide), hall 9 (by decide), hall 10 (by decide), hall 11 (by decide), hall 12 (by decide), hall 13 (by decide), hall 14 (by decide), hall 15 (by decide), hall 16 (by decide), hall 17 (by decide), hall 18 (by decide), hall 19 (by decide), hall 20 (by decide), hall 21 (by decide), hall 22 (by decide), hall 23 (by decide), hall 24 (by decide), hall 25 (by decide), hall 26 (by decide), hall 27 (by decide), cond_true]
      rw [hfr]
      clear hfr
      have K3 := Lib.hid (show Kb wr [(b1, vcA t, 42)] w3 from hw)
      clear hw hall
      have hk16 : (k : Int) < 16 := by omega
      go_wp2_with fail
      go_roundw
      case rel => exact ⟨k + 1, by omega, by go_num, BR.out.trans (K3.out.below.mono BR.out.size)⟩
      case measure => simp [intOf]; omega
end Go.Proofs.Ytojijeaofkndpaa
