/- RoleOne: its loop. -/
import Derived.Test.YtojijeaofkndpaaRq0
namespace Go.Proofs.Ytojijeaofkndpaa
open Go.RowKit
attribute [local irreducible] wpQuiet wpList
set_option linter.unusedSimpArgs false
set_option linter.unusedVariables false

/-- The slots, while the region runs. -/
def OnF1 (self n k g1 g2 ga c1 c2 c5 b7 : Nat) (P : Int) (x : Rp) (t : Vc) (f1 f2 f3 u4 f6 f10 f11 f12 f13 f14 f15 f16 f17 f18 f19 f20 f21 f22 f23 f24 f25 f26 f27 f28 f29 f30 f31 f32 f33 f34 f35 f36 f37 f38 f39 f40 f41 f42 f43 f44 f45 f46 f47 f48 f49 f50 f51 f52 f53 u58 u59 u109 u110 u111 u112 u113 u114 u115 u116 u117 u118 u119 u120 : Value) (L : Nat → Bool) : Act := { tmps := #[.int .u64 (self : Nat), f1, f2, f3, u4, .slice (some ⟨ga, 0, none⟩) n c5, f6, .pointer (some ⟨b7, 0, none⟩), .int .i64 (k : Nat), .int .i64 2, f10, f11, f12, f13, f14, f15, f16, f17, f18, f19, f20, f21, f22, f23, f24, f25, f26, f27, f28, f29, f30, f31, f32, f33, f34, f35, f36, f37, f38, f39, f40, f41, f42, f43, f44, f45, f46, f47, f48, f49, f50, f51, f52, f53, .int .i64 (k : Nat), .slice (some ⟨ga, 0, none⟩) n c5, .int .i64 (n : Nat), .bool true, u58, u59, .pointer (some ⟨b7, 3, none⟩), .slice (some ⟨g1, 0, none⟩) n c1, .int .i64 (k : Nat), .pointer (some ⟨g1, k, none⟩), .int .i64 2, .int .i64 2, .bool false, .pointer (some ⟨b7, 2, none⟩), .int .i64 P, .int .i64 (k : Nat), .int .i64 ((k : Int) + 1), .bool false, .bool false, .bool false, .int .i64 2, .bool false, .slice (some ⟨ga, 0, none⟩) n c5, .int .i64 (k : Nat), .pointer (some ⟨ga, k * 8, none⟩), .pointer (some ⟨ga, k * 8, none⟩), .bool true, .bool false, .bool false, .bool false, .bool false, .slice (some ⟨ga, 0, none⟩) n c5, .int .i64 (k : Nat), .pointer (some ⟨ga, k * 8, none⟩), .pointer (some ⟨ga, k * 8, none⟩), .bool true, .bool true, .slice (some ⟨ga, 0, none⟩) n c5, .int .i64 (k : Nat), .pointer (some ⟨ga, k * 8, none⟩), .pointer (some ⟨ga, k * 8 + 1, none⟩), .bool true, .bool false, .bool false, .bool false, undef, undef, .bool false, .bool false, .int .i64 2, .bool false, .bool false, .int .i64 2, .bool true, .bool true, bif L 0 then .slice (some ⟨ga, 0, none⟩) n c5 else u109, bif L 1 then .int .i64 (k : Nat) else u110, bif L 2 then .pointer (some ⟨ga, k * 8, none⟩) else u111, bif L 3 then .pointer (some ⟨ga, k * 8 + 2, none⟩) else u112, bif L 4 then .agg (vcA x.v) else u113, bif L 5 then .pointer (some ⟨b7, 4, none⟩) else u114, bif L 6 then .slice (some ⟨g2, 0, none⟩) n c2 else u115, bif L 7 then .int .i64 (k : Nat) else u116, bif L 8 then .pointer (some ⟨g2, k * 4, none⟩) else u117, bif L 9 then .agg (vcA t) else u118, bif L 10 then .bool true else u119, bif L 11 then .bool false else u120], defers := [] }
/-- The slots, while the region runs. -/
def OnF2 (self n k g1 g2 ga c1 c2 c5 b7 : Nat) (P : Int) (x : Rp) (t : Vc) (f1 f2 f3 u4 f6 f10 f11 f12 f13 f14 f15 f16 f17 f18 f19 f20 f21 f22 f23 f24 f25 f26 f27 f28 f29 f30 f31 f32 f33 f34 f35 f36 f37 f38 f39 f40 f41 f42 f43 f44 f45 f46 f47 f48 f49 f50 f51 f52 f53 u58 u59 u109 u110 u111 u112 u113 u114 u115 u116 u117 u118 u119 u120 : Value) (L : Nat → Bool) : Act := { tmps := #[.int .u64 (self : Nat), f1, f2, f3, u4, .slice (some ⟨ga, 0, none⟩) n c5, f6, .pointer (some ⟨b7, 0, none⟩), .int .i64 (k : Nat), .int .i64 1, f10, f11, f12, f13, f14, f15, f16, f17, f18, f19, f20, f21, f22, f23, f24, f25, f26, f27, f28, f29, f30, f31, f32, f33, f34, f35, f36, f37, f38, f39, f40, f41, f42, f43, f44, f45, f46, f47, f48, f49, f50, f51, f52, f53, .int .i64 (k : Nat), .slice (some ⟨ga, 0, none⟩) n c5, .int .i64 (n : Nat), .bool true, u58, u59, .pointer (some ⟨b7, 3, none⟩), .slice (some ⟨g1, 0, none⟩) n c1, .int .i64 (k : Nat), .pointer (some ⟨g1, k, none⟩), .int .i64 1, .int .i64 1, .bool false, .pointer (some ⟨b7, 2, none⟩), .int .i64 P, .int .i64 (k : Nat), .int .i64 ((k : Int) + 1), .bool false, .bool false, .bool false, .int .i64 1, .bool false, .slice (some ⟨ga, 0, none⟩) n c5, .int .i64 (k : Nat), .pointer (some ⟨ga, k * 8, none⟩), .pointer (some ⟨ga, k * 8, none⟩), .bool true, .bool false, .bool false, .bool false, .bool false, .slice (some ⟨ga, 0, none⟩) n c5, .int .i64 (k : Nat), .pointer (some ⟨ga, k * 8, none⟩), .pointer (some ⟨ga, k * 8, none⟩), .bool true, .bool true, .slice (some ⟨ga, 0, none⟩) n c5, .int .i64 (k : Nat), .pointer (some ⟨ga, k * 8, none⟩), .pointer (some ⟨ga, k * 8 + 1, none⟩), .bool true, .bool false, .bool false, .bool false, undef, undef, .bool false, .bool false, .int .i64 1, .bool true, .bool true, undef, undef, .bool true, bif L 0 then .slice (some ⟨ga, 0, none⟩) n c5 else u109, bif L 1 then .int .i64 (k : Nat) else u110, bif L 2 then .pointer (some ⟨ga, k * 8, none⟩) else u111, bif L 3 then .pointer (some ⟨ga, k * 8 + 2, none⟩) else u112, bif L 4 then .agg (vcA x.v) else u113, bif L 5 then .pointer (some ⟨b7, 4, none⟩) else u114, bif L 6 then .slice (some ⟨g2, 0, none⟩) n c2 else u115, bif L 7 then .int .i64 (k : Nat) else u116, bif L 8 then .pointer (some ⟨g2, k * 4, none⟩) else u117, bif L 9 then .agg (vcA t) else u118, bif L 10 then .bool true else u119, bif L 11 then .bool false else u120], defers := [] }
set_option maxRecDepth 100000 in
set_option maxHeartbeats 8000000 in
theorem one7 (self : Nat) (l : List Rp) (n : Nat) (R C : Nat) (P : Int) (b7 : Nat) (a5 : Option Addr) (c5 : Nat) (a1 : Option Addr) (c1 : Nat) (a2 : Option Addr) (c2 : Nat) (f1 f2 f3 f4 f6 f8 f9 f10 f11 f12 f13 f14 f15 f16 f17 f18 f19 f20 f21 f22 f23 f24 f25 f26 f27 f28 f29 f30 f31 f32 f33 f34 f35 f36 f37 f38 f39 f40 f41 f42 f43 f44 f45 f46 f47 f48 f49 f50 f51 f52 f53 f54 f55 f56 f57 f58 f59 f60 f61 f62 f63 f64 f65 f66 f67 f68 f69 f70 f71 f72 f73 f74 f75 f76 f77 f78 f79 f80 f81 f82 f83 f84 f85 f86 f87 f88 f89 f90 f91 f92 f93 f94 f95 f96 f97 f98 f99 f100 f101 f102 f103 f104 f105 f106 f107 f108 f109 f110 f111 f112 f113 f114 f115 f116 f117 f118 f119 f120 : Value) (w wj : World) (B B1 : Nat) (hl : l.length = n) (hn : n ≤ 16)
    (hP : 0 ≤ P ∧ P ≤ n) (hon : ∀ (k : Nat) (x : Rp), l[k]? = some x → P = (k : Int) + 1 → x.on = true ∧ x.hd = true) (hb : Below w.heap.size w wj) (ho : Own wj B 47 8 rpC (.slice a5 n c5) l)
    (h1 : Own wj B1 3 1 inC (.slice a1 n c1) (rolesE self R C P l n)) (h2 : Own wj B1 44 4 vcC (.slice a2 n c2) (tellsK self R C l n)) (hc : Blk wj b7 (chA R C P (.slice a1 n c1) (.slice a2 n c2)) 34) :
    Code.wp Try.prog (tail4 7) (bodyPost Try.prog Try.f4 fun e w' => e = .returned (.bool true) ∧ Below w.heap.size w w') { tmps := #[.int .u64 (self : Nat), f1, f2, f3, f4, .slice a5 n c5, f6, .pointer (some ⟨b7, 0, none⟩), f8, f9, f10, f11, f12, f13, f14, f15, f16, f17, f18, f19, f20, f21, f22, f23, f24, f25, f26, f27, f28, f29, f30, f31, f32, f33, f34, f35, f36, f37, f38, f39, f40, f41, f42, f43, f44, f45, f46, f47, f48, f49, f50, f51, f52, f53, f54, f55, f56, f57, f58, f59, f60, f61, f62, f63, f64, f65, f66, f67, f68, f69, f70, f71, f72, f73, f74, f75, f76, f77, f78, f79, f80, f81, f82, f83, f84, f85, f86, f87, f88, f89, f90, f91, f92, f93, f94, f95, f96, f97, f98, f99, f100, f101, f102, f103, f104, f105, f106, f107, f108, f109, f110, f111, f112, f113, f114, f115, f116, f117, f118, f119, f120], defers := [] } wj := by
  have HL := Lib.hid hl
  have HP := Lib.hid hP
  have HON := Lib.hid hon
  have HB := Lib.hid hb
  have OL := Lib.hid ho
  have O1 := Lib.hid h1
  have O2 := Lib.hid h2
  have HC := Lib.hid hc
  have cap5 : n ≤ c5 := by
    obtain ⟨a', c', e, h1, h2⟩ := ho.shape
    injection e with _ e2 e3
    subst e3
    omega
  have cap1 : n ≤ c1 := by
    obtain ⟨a', c', e, h1, h2⟩ := h1.shape
    injection e with _ e2 e3
    subst e3
    omega
  have cap2 : n ≤ c2 := by
    obtain ⟨a', c', e, h1, h2⟩ := h2.shape
    injection e with _ e2 e3
    subst e3
    omega
  clear hl hP hon hb ho h1 h2 hc
  conv => arg 2; whnf
  conv => arg 4; zeta
  go_upto_region 8 with fail
  rename_i KX hKX
  have HKX := Lib.hid hKX
  clear hKX
  go_loopw [8] (fun i wr => ∃ k : Nat, k ≤ n ∧ i = .int .i64 k ∧ Below wj.heap.size wj wr) (fun i _ => (n - intOf i).toNat)
  case atStart => exact ⟨0, by omega, rfl, Below.refl _ _⟩
  case round =>
    obtain ⟨k, hk, rfl, hB⟩ := hrel
    have BR := Lib.hid hB
    have K0 := Lib.hid (Kb.nil wr)
    clear hB
    by_cases hlt : (k : Int) < (n : Int)
    case neg =>
      go_upto_region 8 with fail
      refine wp_region_lit ?_
      refine wpList_val (.int .i64 (k : Nat)) (by rfl) (by go_simp) ?_
      (try simp only [Act.put, List.getElem_toArray, List.getElem_cons_succ, List.getElem_cons_zero, List.setIfInBounds_toArray, List.set_cons_zero, List.set_cons_succ])
      refine wpList_val (.slice a5 n c5) (by rfl) (by go_simp) ?_
      (try simp only [Act.put, List.getElem_toArray, List.getElem_cons_succ, List.getElem_cons_zero, List.setIfInBounds_toArray, List.set_cons_zero, List.set_cons_succ])
      refine wpList_val (.int .i64 (n : Nat)) (by rfl) (by go_simp) ?_
      (try simp only [Act.put, List.getElem_toArray, List.getElem_cons_succ, List.getElem_cons_zero, List.setIfInBounds_toArray, List.set_cons_zero, List.set_cons_succ])
      refine wpList_val (.bool false) (by rfl) (by have q := hlt; go_simp) ?_
      (try simp only [Act.put, List.getElem_toArray, List.getElem_cons_succ, List.getElem_cons_zero, List.setIfInBounds_toArray, List.set_cons_zero, List.set_cons_succ])
      refine wpList_nil ?_
      go_wp2_with fail
      refine HKX.out _ _ ?_
      go_wp2_with fail
      go_ret
      exact ⟨rfl, HB.out.trans (BR.out.mono HB.out.size)⟩
    case pos =>
      obtain ⟨x, hx⟩ : ∃ x, l[k]? = some x := ⟨_, List.getElem?_eq_getElem (by rw [HL.out]; omega)⟩
      obtain ⟨t, ht⟩ : ∃ t, t = tellsV self R C x := ⟨_, rfl⟩
      obtain ⟨r, hr⟩ : ∃ r, r = if P = (k : Int) + 1 then 3 else roleN self (tellsV self R C x) x := ⟨_, rfl⟩
      have er : (rolesE self R C P l n)[k]? = some r := by rw [hr]; exact roles_at HL.out (by omega) hx HP.out
      have et : (tellsK self R C l n)[k]? = some t := by rw [ht]; exact take_at (tellsV self R C) (by omega) hx
      have o5 := OL.out
      rw [← HL.out] at o5
      obtain ⟨ga, e5, -, -, r5⟩ := Own.elem rp_len o5 hx
      have o1 : Own wj B1 3 1 inC (.slice a1 (rolesE self R C P l n).length c1) (rolesE self R C P l n) := by rw [rolesE_len HL.out]; exact O1.out
      obtain ⟨g1, e1, -, -, r1⟩ := Own.elem in_len o1 er
      have o2 : Own wj B1 44 4 vcC (.slice a2 (tellsK self R C l n).length c2) (tellsK self R C l n) := by rw [show (tellsK self R C l n).length = n from tk_len _ (by rw [HL.out]; omega)]; exact O2.out
      obtain ⟨g2, e2, -, -, r2⟩ := Own.elem vc_len o2 et
      subst e5 e1 e2
      have R5 := Lib.hid (show ∀ W, Below wr.heap.size wr W → W.rangeAt ga (k * 8) (rpC x) from fun W hW => r5 W (BR.out.trans (hW.mono BR.out.size)))
      have R1 := Lib.hid (show ∀ W, Below wr.heap.size wr W → W.cell? ⟨g1, k, none⟩ = some (.int .i64 r) from fun W hW => by have h := r1 W (BR.out.trans (hW.mono BR.out.size)) 0 _ rfl; rwa [Nat.mul_one] at h)
      have R2 := Lib.hid (show ∀ W, Below wr.heap.size wr W → W.rangeAt g2 (k * 4) (vcC t) from fun W hW => r2 W (BR.out.trans (hW.mono BR.out.size)))
      have C7 := Lib.hid (show ∀ W, Below wr.heap.size wr W → Blk W b7 (chA R C P (.slice (some ⟨g1, 0, none⟩) n c1) (.slice (some ⟨g2, 0, none⟩) n c2)) 34 from fun W hW => HC.out.below (BR.out.trans (hW.mono BR.out.size)) HC.out.lt)
      have HX := Lib.hid hx
      have HR := Lib.hid hr
      have HTT := Lib.hid ht
      have HXO := Lib.hid (HON.out k x hx)
      obtain ⟨o, hoo⟩ : ∃ o, o = x.on := ⟨_, rfl⟩
      obtain ⟨d, hdd⟩ : ∃ d, d = x.hd := ⟨_, rfl⟩
      have RO := Lib.hid (show ∀ W, Below wr.heap.size wr W → W.cell? ⟨ga, k * 8, none⟩ = some (.bool o) from fun W hW => by rw [hoo]; exact R5.out W hW 0 _ rfl)
      have RD := Lib.hid (show ∀ W, Below wr.heap.size wr W → W.cell? ⟨ga, k * 8 + 1, none⟩ = some (.bool d) from fun W hW => by rw [hdd]; exact R5.out W hW 1 _ rfl)
      have HO := Lib.hid hoo
      have HD := Lib.hid hdd
      clear hx er et o5 r5 o1 r1 o2 r2 hr ht hoo hdd
      have hk5 : k ≤ c5 := by omega
      have hk1 : k ≤ c1 := by omega
      have hk2 : k ≤ c2 := by omega
      by_cases hpk : P = (k : Int) + 1
      case pos =>
        obtain ⟨q1, q2⟩ := HXO.out hpk
        obtain rfl : o = true := HO.out.trans q1
        obtain rfl : d = true := HD.out.trans q2
        have hrv : r = 3 := by rw [HR.out, if_pos hpk]
        have HPK := Lib.hid hpk
        clear hpk
        have R1x := Lib.hid (show ∀ W, Below wr.heap.size wr W → W.cell? ⟨g1, k, none⟩ = some (.int .i64 3) from fun W hW => by rw [R1.out W hW, hrv])
        clear hrv
        go_upto_region 8 with fail
        refine wp_region_lit ?_
        refine wpList_val (.int .i64 (k : Nat)) (by rfl) (by go_simp) ?_
        (try simp only [Act.put, List.getElem_toArray, List.getElem_cons_succ, List.getElem_cons_zero, List.setIfInBounds_toArray, List.set_cons_zero, List.set_cons_succ])
        refine wpList_val (.slice (some ⟨ga, 0, none⟩) n c5) (by rfl) (by go_simp) ?_
        (try simp only [Act.put, List.getElem_toArray, List.getElem_cons_succ, List.getElem_cons_zero, List.setIfInBounds_toArray, List.set_cons_zero, List.set_cons_succ])
        refine wpList_val (.int .i64 (n : Nat)) (by rfl) (by go_simp) ?_
        (try simp only [Act.put, List.getElem_toArray, List.getElem_cons_succ, List.getElem_cons_zero, List.setIfInBounds_toArray, List.set_cons_zero, List.set_cons_succ])
        refine wpList_val (.bool true) (by rfl) (by have q := hlt; go_simp) ?_
        (try simp only [Act.put, List.getElem_toArray, List.getElem_cons_succ, List.getElem_cons_zero, List.setIfInBounds_toArray, List.set_cons_zero, List.set_cons_succ])
        refine wpList_nil ?_
        go_upto_region 10 with fail
        refine wp_region_lit ?_
        refine wpList_val (.pointer (some ⟨b7, 3, none⟩)) (by rfl) (by go_simp) ?_
        (try simp only [Act.put, List.getElem_toArray, List.getElem_cons_succ, List.getElem_cons_zero, List.setIfInBounds_toArray, List.set_cons_zero, List.set_cons_succ])
        refine wpList_val (.slice (some ⟨g1, 0, none⟩) n c1) (by rfl) (by have q : wr.cell? ⟨b7, 3, none⟩ = some (.slice (some ⟨g1, 0, none⟩) n c1) := (C7.out _ K0.out.below).cell 3; go_simp) ?_
        (try simp only [Act.put, List.getElem_toArray, List.getElem_cons_succ, List.getElem_cons_zero, List.setIfInBounds_toArray, List.set_cons_zero, List.set_cons_succ])
        refine wpList_val (.int .i64 (k : Nat)) (by rfl) (by go_simp) ?_
        (try simp only [Act.put, List.getElem_toArray, List.getElem_cons_succ, List.getElem_cons_zero, List.setIfInBounds_toArray, List.set_cons_zero, List.set_cons_succ])
        refine wpList_val (.pointer (some ⟨g1, k, none⟩)) (by rfl) (by go_simp) ?_
        (try simp only [Act.put, List.getElem_toArray, List.getElem_cons_succ, List.getElem_cons_zero, List.setIfInBounds_toArray, List.set_cons_zero, List.set_cons_succ])
        refine wpList_val (.int .i64 3) (by rfl) (by have q := R1x.out _ K0.out.below; go_simp) ?_
        (try simp only [Act.put, List.getElem_toArray, List.getElem_cons_succ, List.getElem_cons_zero, List.setIfInBounds_toArray, List.set_cons_zero, List.set_cons_succ])
        refine wpList_val (.int .i64 3) (by rfl) (by go_simp) ?_
        (try simp only [Act.put, List.getElem_toArray, List.getElem_cons_succ, List.getElem_cons_zero, List.setIfInBounds_toArray, List.set_cons_zero, List.set_cons_succ])
        refine wpList_nil ?_
        go_upto_region 11 with fail
        refine wp_region_lit ?_
        refine wpList_val (.int .i64 3) (by rfl) (by go_simp) ?_
        (try simp only [Act.put, List.getElem_toArray, List.getElem_cons_succ, List.getElem_cons_zero, List.setIfInBounds_toArray, List.set_cons_zero, List.set_cons_succ])
        refine wpList_val (.bool true) (by rfl) (by go_simp) ?_
        (try simp only [Act.put, List.getElem_toArray, List.getElem_cons_succ, List.getElem_cons_zero, List.setIfInBounds_toArray, List.set_cons_zero, List.set_cons_succ])
        refine wpList_val (.pointer (some ⟨b7, 2, none⟩)) (by rfl) (by go_simp) ?_
        (try simp only [Act.put, List.getElem_toArray, List.getElem_cons_succ, List.getElem_cons_zero, List.setIfInBounds_toArray, List.set_cons_zero, List.set_cons_succ])
        refine wpList_val (.int .i64 P) (by rfl) (by have q : wr.cell? ⟨b7, 2, none⟩ = some (.int .i64 P) := (C7.out _ K0.out.below).cell 2; go_simp) ?_
        (try simp only [Act.put, List.getElem_toArray, List.getElem_cons_succ, List.getElem_cons_zero, List.setIfInBounds_toArray, List.set_cons_zero, List.set_cons_succ])
        refine wpList_val (.int .i64 (k : Nat)) (by rfl) (by go_simp) ?_
        (try simp only [Act.put, List.getElem_toArray, List.getElem_cons_succ, List.getElem_cons_zero, List.setIfInBounds_toArray, List.set_cons_zero, List.set_cons_succ])
        refine wpList_val (.int .i64 ((k : Int) + 1)) (by rfl) (by go_simp; exact wrap_i64r (by omega) (by omega)) ?_
        (try simp only [Act.put, List.getElem_toArray, List.getElem_cons_succ, List.getElem_cons_zero, List.setIfInBounds_toArray, List.set_cons_zero, List.set_cons_succ])
        refine wpList_val (.bool true) (by rfl) (by have q := HPK.out; go_simp) ?_
        (try simp only [Act.put, List.getElem_toArray, List.getElem_cons_succ, List.getElem_cons_zero, List.setIfInBounds_toArray, List.set_cons_zero, List.set_cons_succ])
        refine wpList_val (.bool false) (by rfl) (by go_simp) ?_
        (try simp only [Act.put, List.getElem_toArray, List.getElem_cons_succ, List.getElem_cons_zero, List.setIfInBounds_toArray, List.set_cons_zero, List.set_cons_succ])
        refine wpList_val (.bool false) (by rfl) (by go_simp) ?_
        (try simp only [Act.put, List.getElem_toArray, List.getElem_cons_succ, List.getElem_cons_zero, List.setIfInBounds_toArray, List.set_cons_zero, List.set_cons_succ])
        refine wpList_val (.int .i64 3) (by rfl) (by go_simp) ?_
        (try simp only [Act.put, List.getElem_toArray, List.getElem_cons_succ, List.getElem_cons_zero, List.setIfInBounds_toArray, List.set_cons_zero, List.set_cons_succ])
        refine wpList_val (.bool false) (by rfl) (by go_simp) ?_
        (try simp only [Act.put, List.getElem_toArray, List.getElem_cons_succ, List.getElem_cons_zero, List.setIfInBounds_toArray, List.set_cons_zero, List.set_cons_succ])
        refine wpList_val (.slice (some ⟨ga, 0, none⟩) n c5) (by rfl) (by go_simp) ?_
        (try simp only [Act.put, List.getElem_toArray, List.getElem_cons_succ, List.getElem_cons_zero, List.setIfInBounds_toArray, List.set_cons_zero, List.set_cons_succ])
        refine wpList_val (.int .i64 (k : Nat)) (by rfl) (by go_simp) ?_
        (try simp only [Act.put, List.getElem_toArray, List.getElem_cons_succ, List.getElem_cons_zero, List.setIfInBounds_toArray, List.set_cons_zero, List.set_cons_succ])
        refine wpList_val (.pointer (some ⟨ga, k * 8, none⟩)) (by rfl) (by go_simp) ?_
        (try simp only [Act.put, List.getElem_toArray, List.getElem_cons_succ, List.getElem_cons_zero, List.setIfInBounds_toArray, List.set_cons_zero, List.set_cons_succ])
        refine wpList_val (.pointer (some ⟨ga, k * 8, none⟩)) (by rfl) (by go_simp) ?_
        (try simp only [Act.put, List.getElem_toArray, List.getElem_cons_succ, List.getElem_cons_zero, List.setIfInBounds_toArray, List.set_cons_zero, List.set_cons_succ])
        refine wpList_val (.bool true) (by rfl) (by have q := RO.out _ K0.out.below; go_simp) ?_
        (try simp only [Act.put, List.getElem_toArray, List.getElem_cons_succ, List.getElem_cons_zero, List.setIfInBounds_toArray, List.set_cons_zero, List.set_cons_succ])
        refine wpList_val (.bool false) (by rfl) (by go_simp) ?_
        (try simp only [Act.put, List.getElem_toArray, List.getElem_cons_succ, List.getElem_cons_zero, List.setIfInBounds_toArray, List.set_cons_zero, List.set_cons_succ])
        refine wpList_val (.bool false) (by rfl) (by go_simp) ?_
        (try simp only [Act.put, List.getElem_toArray, List.getElem_cons_succ, List.getElem_cons_zero, List.setIfInBounds_toArray, List.set_cons_zero, List.set_cons_succ])
        refine wpList_val (.bool false) (by rfl) (run_pick_no (.tmp 73) (.const (.bool true)) (.tmp 82) _ rfl rfl rfl) ?_
        (try simp only [Act.put, List.getElem_toArray, List.getElem_cons_succ, List.getElem_cons_zero, List.setIfInBounds_toArray, List.set_cons_zero, List.set_cons_succ])
        refine wpList_val (.bool false) (by rfl) (by go_simp) ?_
        (try simp only [Act.put, List.getElem_toArray, List.getElem_cons_succ, List.getElem_cons_zero, List.setIfInBounds_toArray, List.set_cons_zero, List.set_cons_succ])
        refine wpList_val (.slice (some ⟨ga, 0, none⟩) n c5) (by rfl) (by go_simp) ?_
        (try simp only [Act.put, List.getElem_toArray, List.getElem_cons_succ, List.getElem_cons_zero, List.setIfInBounds_toArray, List.set_cons_zero, List.set_cons_succ])
        refine wpList_val (.int .i64 (k : Nat)) (by rfl) (by go_simp) ?_
        (try simp only [Act.put, List.getElem_toArray, List.getElem_cons_succ, List.getElem_cons_zero, List.setIfInBounds_toArray, List.set_cons_zero, List.set_cons_succ])
        refine wpList_val (.pointer (some ⟨ga, k * 8, none⟩)) (by rfl) (by go_simp) ?_
        (try simp only [Act.put, List.getElem_toArray, List.getElem_cons_succ, List.getElem_cons_zero, List.setIfInBounds_toArray, List.set_cons_zero, List.set_cons_succ])
        refine wpList_val (.pointer (some ⟨ga, k * 8, none⟩)) (by rfl) (by go_simp) ?_
        (try simp only [Act.put, List.getElem_toArray, List.getElem_cons_succ, List.getElem_cons_zero, List.setIfInBounds_toArray, List.set_cons_zero, List.set_cons_succ])
        refine wpList_val (.bool true) (by rfl) (by have q := RO.out _ K0.out.below; go_simp) ?_
        (try simp only [Act.put, List.getElem_toArray, List.getElem_cons_succ, List.getElem_cons_zero, List.setIfInBounds_toArray, List.set_cons_zero, List.set_cons_succ])
        refine wpList_val (.bool true) (by rfl) (by go_simp) ?_
        (try simp only [Act.put, List.getElem_toArray, List.getElem_cons_succ, List.getElem_cons_zero, List.setIfInBounds_toArray, List.set_cons_zero, List.set_cons_succ])
        refine wpList_val (.slice (some ⟨ga, 0, none⟩) n c5) (by rfl) (by go_simp) ?_
        (try simp only [Act.put, List.getElem_toArray, List.getElem_cons_succ, List.getElem_cons_zero, List.setIfInBounds_toArray, List.set_cons_zero, List.set_cons_succ])
        refine wpList_val (.int .i64 (k : Nat)) (by rfl) (by go_simp) ?_
        (try simp only [Act.put, List.getElem_toArray, List.getElem_cons_succ, List.getElem_cons_zero, List.setIfInBounds_toArray, List.set_cons_zero, List.set_cons_succ])
        refine wpList_val (.pointer (some ⟨ga, k * 8, none⟩)) (by rfl) (by go_simp) ?_
        (try simp only [Act.put, List.getElem_toArray, List.getElem_cons_succ, List.getElem_cons_zero, List.setIfInBounds_toArray, List.set_cons_zero, List.set_cons_succ])
        refine wpList_val (.pointer (some ⟨ga, k * 8 + 1, none⟩)) (by rfl) (by go_simp) ?_
        (try simp only [Act.put, List.getElem_toArray, List.getElem_cons_succ, List.getElem_cons_zero, List.setIfInBounds_toArray, List.set_cons_zero, List.set_cons_succ])
        refine wpList_val (.bool true) (by rfl) (by have q := RD.out _ K0.out.below; go_simp) ?_
        (try simp only [Act.put, List.getElem_toArray, List.getElem_cons_succ, List.getElem_cons_zero, List.setIfInBounds_toArray, List.set_cons_zero, List.set_cons_succ])
        refine wpList_val (.bool false) (by rfl) (by go_simp) ?_
        (try simp only [Act.put, List.getElem_toArray, List.getElem_cons_succ, List.getElem_cons_zero, List.setIfInBounds_toArray, List.set_cons_zero, List.set_cons_succ])
        refine wpList_val (.bool false) (by rfl) (run_pick_yes (.tmp 90) (.tmp 96) (.const (.bool false)) _ rfl rfl rfl) ?_
        (try simp only [Act.put, List.getElem_toArray, List.getElem_cons_succ, List.getElem_cons_zero, List.setIfInBounds_toArray, List.set_cons_zero, List.set_cons_succ])
        refine wpList_val (.bool false) (by rfl) (by go_simp) ?_
        (try simp only [Act.put, List.getElem_toArray, List.getElem_cons_succ, List.getElem_cons_zero, List.setIfInBounds_toArray, List.set_cons_zero, List.set_cons_succ])
        refine wpList_skip (by kernel_rfl) ?_
        (try simp only [Act.put, List.getElem_toArray, List.getElem_cons_succ, List.getElem_cons_zero, List.setIfInBounds_toArray, List.set_cons_zero, List.set_cons_succ])
        refine wpList_skip (by kernel_rfl) ?_
        (try simp only [Act.put, List.getElem_toArray, List.getElem_cons_succ, List.getElem_cons_zero, List.setIfInBounds_toArray, List.set_cons_zero, List.set_cons_succ])
        refine wpList_val (.bool false) (by rfl) (run_pick_no (.tmp 98) (.tmp 100) (.const (.bool false)) _ rfl rfl rfl) ?_
        (try simp only [Act.put, List.getElem_toArray, List.getElem_cons_succ, List.getElem_cons_zero, List.setIfInBounds_toArray, List.set_cons_zero, List.set_cons_succ])
        refine wpList_val (.bool false) (by rfl) (run_pick_no (.tmp 84) (.const (.bool true)) (.tmp 101) _ rfl rfl rfl) ?_
        (try simp only [Act.put, List.getElem_toArray, List.getElem_cons_succ, List.getElem_cons_zero, List.setIfInBounds_toArray, List.set_cons_zero, List.set_cons_succ])
        refine wpList_nil ?_
        go_upto_region 13 with fail
        refine wp_region_lit ?_
        refine wpList_val (.int .i64 3) (by rfl) (by go_simp) ?_
        (try simp only [Act.put, List.getElem_toArray, List.getElem_cons_succ, List.getElem_cons_zero, List.setIfInBounds_toArray, List.set_cons_zero, List.set_cons_succ])
        refine wpList_val (.bool false) (by rfl) (by go_simp) ?_
        (try simp only [Act.put, List.getElem_toArray, List.getElem_cons_succ, List.getElem_cons_zero, List.setIfInBounds_toArray, List.set_cons_zero, List.set_cons_succ])
        refine wpList_val (.bool false) (by rfl) (by go_simp) ?_
        (try simp only [Act.put, List.getElem_toArray, List.getElem_cons_succ, List.getElem_cons_zero, List.setIfInBounds_toArray, List.set_cons_zero, List.set_cons_succ])
        refine wpList_val (.int .i64 3) (by rfl) (by go_simp) ?_
        (try simp only [Act.put, List.getElem_toArray, List.getElem_cons_succ, List.getElem_cons_zero, List.setIfInBounds_toArray, List.set_cons_zero, List.set_cons_succ])
        refine wpList_val (.bool false) (by rfl) (by go_simp) ?_
        (try simp only [Act.put, List.getElem_toArray, List.getElem_cons_succ, List.getElem_cons_zero, List.setIfInBounds_toArray, List.set_cons_zero, List.set_cons_succ])
        refine wpList_val (.bool false) (by rfl) (run_pick_no (.tmp 105) (.const (.bool true)) (.tmp 107) _ rfl rfl rfl) ?_
        (try simp only [Act.put, List.getElem_toArray, List.getElem_cons_succ, List.getElem_cons_zero, List.setIfInBounds_toArray, List.set_cons_zero, List.set_cons_succ])
        refine wpList_nil ?_
        have hk16 : (k : Int) < 16 := by omega
        go_wp2_with fail
        go_roundw
        case rel => exact ⟨k + 1, by omega, by go_num, BR.out.trans (K0.out.below.mono BR.out.size)⟩
        case measure => simp [intOf]; omega
      case neg =>
        have hrr : r = roleN self t x := by rw [HR.out, if_neg hpk, HTT.out]
        unfold roleN at hrr
        rw [← HO.out, ← HD.out] at hrr
        have HPK := Lib.hid hpk
        clear hpk
        cases o
        case false =>
          have hrv : r = 0 := by rw [hrr]; rfl
          clear hrr
          cases d
          case false =>
            have R1x := Lib.hid (show ∀ W, Below wr.heap.size wr W → W.cell? ⟨g1, k, none⟩ = some (.int .i64 0) from fun W hW => by rw [R1.out W hW, hrv])
            clear hrv
            go_upto_region 8 with fail
            refine wp_region_lit ?_
            refine wpList_val (.int .i64 (k : Nat)) (by rfl) (by go_simp) ?_
            (try simp only [Act.put, List.getElem_toArray, List.getElem_cons_succ, List.getElem_cons_zero, List.setIfInBounds_toArray, List.set_cons_zero, List.set_cons_succ])
            refine wpList_val (.slice (some ⟨ga, 0, none⟩) n c5) (by rfl) (by go_simp) ?_
            (try simp only [Act.put, List.getElem_toArray, List.getElem_cons_succ, List.getElem_cons_zero, List.setIfInBounds_toArray, List.set_cons_zero, List.set_cons_succ])
            refine wpList_val (.int .i64 (n : Nat)) (by rfl) (by go_simp) ?_
            (try simp only [Act.put, List.getElem_toArray, List.getElem_cons_succ, List.getElem_cons_zero, List.setIfInBounds_toArray, List.set_cons_zero, List.set_cons_succ])
            refine wpList_val (.bool true) (by rfl) (by have q := hlt; go_simp) ?_
            (try simp only [Act.put, List.getElem_toArray, List.getElem_cons_succ, List.getElem_cons_zero, List.setIfInBounds_toArray, List.set_cons_zero, List.set_cons_succ])
            refine wpList_nil ?_
            go_upto_region 10 with fail
            refine wp_region_lit ?_
            refine wpList_val (.pointer (some ⟨b7, 3, none⟩)) (by rfl) (by go_simp) ?_
            (try simp only [Act.put, List.getElem_toArray, List.getElem_cons_succ, List.getElem_cons_zero, List.setIfInBounds_toArray, List.set_cons_zero, List.set_cons_succ])
            refine wpList_val (.slice (some ⟨g1, 0, none⟩) n c1) (by rfl) (by have q : wr.cell? ⟨b7, 3, none⟩ = some (.slice (some ⟨g1, 0, none⟩) n c1) := (C7.out _ K0.out.below).cell 3; go_simp) ?_
            (try simp only [Act.put, List.getElem_toArray, List.getElem_cons_succ, List.getElem_cons_zero, List.setIfInBounds_toArray, List.set_cons_zero, List.set_cons_succ])
            refine wpList_val (.int .i64 (k : Nat)) (by rfl) (by go_simp) ?_
            (try simp only [Act.put, List.getElem_toArray, List.getElem_cons_succ, List.getElem_cons_zero, List.setIfInBounds_toArray, List.set_cons_zero, List.set_cons_succ])
            refine wpList_val (.pointer (some ⟨g1, k, none⟩)) (by rfl) (by go_simp) ?_
            (try simp only [Act.put, List.getElem_toArray, List.getElem_cons_succ, List.getElem_cons_zero, List.setIfInBounds_toArray, List.set_cons_zero, List.set_cons_succ])
            refine wpList_val (.int .i64 0) (by rfl) (by have q := R1x.out _ K0.out.below; go_simp) ?_
            (try simp only [Act.put, List.getElem_toArray, List.getElem_cons_succ, List.getElem_cons_zero, List.setIfInBounds_toArray, List.set_cons_zero, List.set_cons_succ])
            refine wpList_val (.int .i64 0) (by rfl) (by go_simp) ?_
            (try simp only [Act.put, List.getElem_toArray, List.getElem_cons_succ, List.getElem_cons_zero, List.setIfInBounds_toArray, List.set_cons_zero, List.set_cons_succ])
            refine wpList_nil ?_
            go_upto_region 11 with fail
            refine wp_region_lit ?_
            refine wpList_val (.int .i64 0) (by rfl) (by go_simp) ?_
            (try simp only [Act.put, List.getElem_toArray, List.getElem_cons_succ, List.getElem_cons_zero, List.setIfInBounds_toArray, List.set_cons_zero, List.set_cons_succ])
            refine wpList_val (.bool false) (by rfl) (by go_simp) ?_
            (try simp only [Act.put, List.getElem_toArray, List.getElem_cons_succ, List.getElem_cons_zero, List.setIfInBounds_toArray, List.set_cons_zero, List.set_cons_succ])
            refine wpList_val (.pointer (some ⟨b7, 2, none⟩)) (by rfl) (by go_simp) ?_
            (try simp only [Act.put, List.getElem_toArray, List.getElem_cons_succ, List.getElem_cons_zero, List.setIfInBounds_toArray, List.set_cons_zero, List.set_cons_succ])
            refine wpList_val (.int .i64 P) (by rfl) (by have q : wr.cell? ⟨b7, 2, none⟩ = some (.int .i64 P) := (C7.out _ K0.out.below).cell 2; go_simp) ?_
            (try simp only [Act.put, List.getElem_toArray, List.getElem_cons_succ, List.getElem_cons_zero, List.setIfInBounds_toArray, List.set_cons_zero, List.set_cons_succ])
            refine wpList_val (.int .i64 (k : Nat)) (by rfl) (by go_simp) ?_
            (try simp only [Act.put, List.getElem_toArray, List.getElem_cons_succ, List.getElem_cons_zero, List.setIfInBounds_toArray, List.set_cons_zero, List.set_cons_succ])
            refine wpList_val (.int .i64 ((k : Int) + 1)) (by rfl) (by go_simp; exact wrap_i64r (by omega) (by omega)) ?_
            (try simp only [Act.put, List.getElem_toArray, List.getElem_cons_succ, List.getElem_cons_zero, List.setIfInBounds_toArray, List.set_cons_zero, List.set_cons_succ])
            refine wpList_val (.bool false) (by rfl) (by have q := HPK.out; go_simp) ?_
            (try simp only [Act.put, List.getElem_toArray, List.getElem_cons_succ, List.getElem_cons_zero, List.setIfInBounds_toArray, List.set_cons_zero, List.set_cons_succ])
            refine wpList_val (.bool false) (by rfl) (by go_simp) ?_
            (try simp only [Act.put, List.getElem_toArray, List.getElem_cons_succ, List.getElem_cons_zero, List.setIfInBounds_toArray, List.set_cons_zero, List.set_cons_succ])
            refine wpList_val (.bool false) (by rfl) (by go_simp) ?_
            (try simp only [Act.put, List.getElem_toArray, List.getElem_cons_succ, List.getElem_cons_zero, List.setIfInBounds_toArray, List.set_cons_zero, List.set_cons_succ])
            refine wpList_val (.int .i64 0) (by rfl) (by go_simp) ?_
            (try simp only [Act.put, List.getElem_toArray, List.getElem_cons_succ, List.getElem_cons_zero, List.setIfInBounds_toArray, List.set_cons_zero, List.set_cons_succ])
            refine wpList_val (.bool true) (by rfl) (by go_simp) ?_
            (try simp only [Act.put, List.getElem_toArray, List.getElem_cons_succ, List.getElem_cons_zero, List.setIfInBounds_toArray, List.set_cons_zero, List.set_cons_succ])
            refine wpList_val (.slice (some ⟨ga, 0, none⟩) n c5) (by rfl) (by go_simp) ?_
            (try simp only [Act.put, List.getElem_toArray, List.getElem_cons_succ, List.getElem_cons_zero, List.setIfInBounds_toArray, List.set_cons_zero, List.set_cons_succ])
            refine wpList_val (.int .i64 (k : Nat)) (by rfl) (by go_simp) ?_
            (try simp only [Act.put, List.getElem_toArray, List.getElem_cons_succ, List.getElem_cons_zero, List.setIfInBounds_toArray, List.set_cons_zero, List.set_cons_succ])
            refine wpList_val (.pointer (some ⟨ga, k * 8, none⟩)) (by rfl) (by go_simp) ?_
            (try simp only [Act.put, List.getElem_toArray, List.getElem_cons_succ, List.getElem_cons_zero, List.setIfInBounds_toArray, List.set_cons_zero, List.set_cons_succ])
            refine wpList_val (.pointer (some ⟨ga, k * 8, none⟩)) (by rfl) (by go_simp) ?_
            (try simp only [Act.put, List.getElem_toArray, List.getElem_cons_succ, List.getElem_cons_zero, List.setIfInBounds_toArray, List.set_cons_zero, List.set_cons_succ])
            refine wpList_val (.bool false) (by rfl) (by have q := RO.out _ K0.out.below; go_simp) ?_
            (try simp only [Act.put, List.getElem_toArray, List.getElem_cons_succ, List.getElem_cons_zero, List.setIfInBounds_toArray, List.set_cons_zero, List.set_cons_succ])
            refine wpList_val (.bool true) (by rfl) (by go_simp) ?_
            (try simp only [Act.put, List.getElem_toArray, List.getElem_cons_succ, List.getElem_cons_zero, List.setIfInBounds_toArray, List.set_cons_zero, List.set_cons_succ])
            refine wpList_val (.bool false) (by rfl) (by go_simp) ?_
            (try simp only [Act.put, List.getElem_toArray, List.getElem_cons_succ, List.getElem_cons_zero, List.setIfInBounds_toArray, List.set_cons_zero, List.set_cons_succ])
            refine wpList_val (.bool false) (by rfl) (run_pick_no (.tmp 73) (.const (.bool true)) (.tmp 82) _ rfl rfl rfl) ?_
            (try simp only [Act.put, List.getElem_toArray, List.getElem_cons_succ, List.getElem_cons_zero, List.setIfInBounds_toArray, List.set_cons_zero, List.set_cons_succ])
            refine wpList_val (.bool false) (by rfl) (by go_simp) ?_
            (try simp only [Act.put, List.getElem_toArray, List.getElem_cons_succ, List.getElem_cons_zero, List.setIfInBounds_toArray, List.set_cons_zero, List.set_cons_succ])
            refine wpList_val (.slice (some ⟨ga, 0, none⟩) n c5) (by rfl) (by go_simp) ?_
            (try simp only [Act.put, List.getElem_toArray, List.getElem_cons_succ, List.getElem_cons_zero, List.setIfInBounds_toArray, List.set_cons_zero, List.set_cons_succ])
            refine wpList_val (.int .i64 (k : Nat)) (by rfl) (by go_simp) ?_
            (try simp only [Act.put, List.getElem_toArray, List.getElem_cons_succ, List.getElem_cons_zero, List.setIfInBounds_toArray, List.set_cons_zero, List.set_cons_succ])
            refine wpList_val (.pointer (some ⟨ga, k * 8, none⟩)) (by rfl) (by go_simp) ?_
            (try simp only [Act.put, List.getElem_toArray, List.getElem_cons_succ, List.getElem_cons_zero, List.setIfInBounds_toArray, List.set_cons_zero, List.set_cons_succ])
            refine wpList_val (.pointer (some ⟨ga, k * 8, none⟩)) (by rfl) (by go_simp) ?_
            (try simp only [Act.put, List.getElem_toArray, List.getElem_cons_succ, List.getElem_cons_zero, List.setIfInBounds_toArray, List.set_cons_zero, List.set_cons_succ])
            refine wpList_val (.bool false) (by rfl) (by have q := RO.out _ K0.out.below; go_simp) ?_
            (try simp only [Act.put, List.getElem_toArray, List.getElem_cons_succ, List.getElem_cons_zero, List.setIfInBounds_toArray, List.set_cons_zero, List.set_cons_succ])
            refine wpList_val (.bool false) (by rfl) (by go_simp) ?_
            (try simp only [Act.put, List.getElem_toArray, List.getElem_cons_succ, List.getElem_cons_zero, List.setIfInBounds_toArray, List.set_cons_zero, List.set_cons_succ])
            refine wpList_skip (by kernel_rfl) ?_
            (try simp only [Act.put, List.getElem_toArray, List.getElem_cons_succ, List.getElem_cons_zero, List.setIfInBounds_toArray, List.set_cons_zero, List.set_cons_succ])
            refine wpList_skip (by kernel_rfl) ?_
            (try simp only [Act.put, List.getElem_toArray, List.getElem_cons_succ, List.getElem_cons_zero, List.setIfInBounds_toArray, List.set_cons_zero, List.set_cons_succ])
            refine wpList_skip (by kernel_rfl) ?_
            (try simp only [Act.put, List.getElem_toArray, List.getElem_cons_succ, List.getElem_cons_zero, List.setIfInBounds_toArray, List.set_cons_zero, List.set_cons_succ])
            refine wpList_skip (by kernel_rfl) ?_
            (try simp only [Act.put, List.getElem_toArray, List.getElem_cons_succ, List.getElem_cons_zero, List.setIfInBounds_toArray, List.set_cons_zero, List.set_cons_succ])
            refine wpList_skip (by kernel_rfl) ?_
            (try simp only [Act.put, List.getElem_toArray, List.getElem_cons_succ, List.getElem_cons_zero, List.setIfInBounds_toArray, List.set_cons_zero, List.set_cons_succ])
            refine wpList_skip (by kernel_rfl) ?_
            (try simp only [Act.put, List.getElem_toArray, List.getElem_cons_succ, List.getElem_cons_zero, List.setIfInBounds_toArray, List.set_cons_zero, List.set_cons_succ])
            refine wpList_val (.bool false) (by rfl) (run_pick_no (.tmp 90) (.tmp 96) (.const (.bool false)) _ rfl rfl rfl) ?_
            (try simp only [Act.put, List.getElem_toArray, List.getElem_cons_succ, List.getElem_cons_zero, List.setIfInBounds_toArray, List.set_cons_zero, List.set_cons_succ])
            refine wpList_val (.bool false) (by rfl) (by go_simp) ?_
            (try simp only [Act.put, List.getElem_toArray, List.getElem_cons_succ, List.getElem_cons_zero, List.setIfInBounds_toArray, List.set_cons_zero, List.set_cons_succ])
            refine wpList_skip (by kernel_rfl) ?_
            (try simp only [Act.put, List.getElem_toArray, List.getElem_cons_succ, List.getElem_cons_zero, List.setIfInBounds_toArray, List.set_cons_zero, List.set_cons_succ])
            refine wpList_skip (by kernel_rfl) ?_
            (try simp only [Act.put, List.getElem_toArray, List.getElem_cons_succ, List.getElem_cons_zero, List.setIfInBounds_toArray, List.set_cons_zero, List.set_cons_succ])
            refine wpList_val (.bool false) (by rfl) (run_pick_no (.tmp 98) (.tmp 100) (.const (.bool false)) _ rfl rfl rfl) ?_
            (try simp only [Act.put, List.getElem_toArray, List.getElem_cons_succ, List.getElem_cons_zero, List.setIfInBounds_toArray, List.set_cons_zero, List.set_cons_succ])
            refine wpList_val (.bool false) (by rfl) (run_pick_no (.tmp 84) (.const (.bool true)) (.tmp 101) _ rfl rfl rfl) ?_
            (try simp only [Act.put, List.getElem_toArray, List.getElem_cons_succ, List.getElem_cons_zero, List.setIfInBounds_toArray, List.set_cons_zero, List.set_cons_succ])
            refine wpList_nil ?_
            go_upto_region 13 with fail
            refine wp_region_lit ?_
            refine wpList_val (.int .i64 0) (by rfl) (by go_simp) ?_
            (try simp only [Act.put, List.getElem_toArray, List.getElem_cons_succ, List.getElem_cons_zero, List.setIfInBounds_toArray, List.set_cons_zero, List.set_cons_succ])
            refine wpList_val (.bool false) (by rfl) (by go_simp) ?_
            (try simp only [Act.put, List.getElem_toArray, List.getElem_cons_succ, List.getElem_cons_zero, List.setIfInBounds_toArray, List.set_cons_zero, List.set_cons_succ])
            refine wpList_val (.bool false) (by rfl) (by go_simp) ?_
            (try simp only [Act.put, List.getElem_toArray, List.getElem_cons_succ, List.getElem_cons_zero, List.setIfInBounds_toArray, List.set_cons_zero, List.set_cons_succ])
            refine wpList_val (.int .i64 0) (by rfl) (by go_simp) ?_
            (try simp only [Act.put, List.getElem_toArray, List.getElem_cons_succ, List.getElem_cons_zero, List.setIfInBounds_toArray, List.set_cons_zero, List.set_cons_succ])
            refine wpList_val (.bool false) (by rfl) (by go_simp) ?_
            (try simp only [Act.put, List.getElem_toArray, List.getElem_cons_succ, List.getElem_cons_zero, List.setIfInBounds_toArray, List.set_cons_zero, List.set_cons_succ])
            refine wpList_val (.bool false) (by rfl) (run_pick_no (.tmp 105) (.const (.bool true)) (.tmp 107) _ rfl rfl rfl) ?_
            (try simp only [Act.put, List.getElem_toArray, List.getElem_cons_succ, List.getElem_cons_zero, List.setIfInBounds_toArray, List.set_cons_zero, List.set_cons_succ])
            refine wpList_nil ?_
            have hk16 : (k : Int) < 16 := by omega
            go_wp2_with fail
            go_roundw
            case rel => exact ⟨k + 1, by omega, by go_num, BR.out.trans (K0.out.below.mono BR.out.size)⟩
            case measure => simp [intOf]; omega
          case true =>
            have R1x := Lib.hid (show ∀ W, Below wr.heap.size wr W → W.cell? ⟨g1, k, none⟩ = some (.int .i64 0) from fun W hW => by rw [R1.out W hW, hrv])
            clear hrv
            go_upto_region 8 with fail
            refine wp_region_lit ?_
            refine wpList_val (.int .i64 (k : Nat)) (by rfl) (by go_simp) ?_
            (try simp only [Act.put, List.getElem_toArray, List.getElem_cons_succ, List.getElem_cons_zero, List.setIfInBounds_toArray, List.set_cons_zero, List.set_cons_succ])
            refine wpList_val (.slice (some ⟨ga, 0, none⟩) n c5) (by rfl) (by go_simp) ?_
            (try simp only [Act.put, List.getElem_toArray, List.getElem_cons_succ, List.getElem_cons_zero, List.setIfInBounds_toArray, List.set_cons_zero, List.set_cons_succ])
            refine wpList_val (.int .i64 (n : Nat)) (by rfl) (by go_simp) ?_
            (try simp only [Act.put, List.getElem_toArray, List.getElem_cons_succ, List.getElem_cons_zero, List.setIfInBounds_toArray, List.set_cons_zero, List.set_cons_succ])
            refine wpList_val (.bool true) (by rfl) (by have q := hlt; go_simp) ?_
            (try simp only [Act.put, List.getElem_toArray, List.getElem_cons_succ, List.getElem_cons_zero, List.setIfInBounds_toArray, List.set_cons_zero, List.set_cons_succ])
            refine wpList_nil ?_
            go_upto_region 10 with fail
            refine wp_region_lit ?_
            refine wpList_val (.pointer (some ⟨b7, 3, none⟩)) (by rfl) (by go_simp) ?_
            (try simp only [Act.put, List.getElem_toArray, List.getElem_cons_succ, List.getElem_cons_zero, List.setIfInBounds_toArray, List.set_cons_zero, List.set_cons_succ])
            refine wpList_val (.slice (some ⟨g1, 0, none⟩) n c1) (by rfl) (by have q : wr.cell? ⟨b7, 3, none⟩ = some (.slice (some ⟨g1, 0, none⟩) n c1) := (C7.out _ K0.out.below).cell 3; go_simp) ?_
            (try simp only [Act.put, List.getElem_toArray, List.getElem_cons_succ, List.getElem_cons_zero, List.setIfInBounds_toArray, List.set_cons_zero, List.set_cons_succ])
            refine wpList_val (.int .i64 (k : Nat)) (by rfl) (by go_simp) ?_
            (try simp only [Act.put, List.getElem_toArray, List.getElem_cons_succ, List.getElem_cons_zero, List.setIfInBounds_toArray, List.set_cons_zero, List.set_cons_succ])
            refine wpList_val (.pointer (some ⟨g1, k, none⟩)) (by rfl) (by go_simp) ?_
            (try simp only [Act.put, List.getElem_toArray, List.getElem_cons_succ, List.getElem_cons_zero, List.setIfInBounds_toArray, List.set_cons_zero, List.set_cons_succ])
            refine wpList_val (.int .i64 0) (by rfl) (by have q := R1x.out _ K0.out.below; go_simp) ?_
            (try simp only [Act.put, List.getElem_toArray, List.getElem_cons_succ, List.getElem_cons_zero, List.setIfInBounds_toArray, List.set_cons_zero, List.set_cons_succ])
            refine wpList_val (.int .i64 0) (by rfl) (by go_simp) ?_
            (try simp only [Act.put, List.getElem_toArray, List.getElem_cons_succ, List.getElem_cons_zero, List.setIfInBounds_toArray, List.set_cons_zero, List.set_cons_succ])
            refine wpList_nil ?_
            go_upto_region 11 with fail
            refine wp_region_lit ?_
            refine wpList_val (.int .i64 0) (by rfl) (by go_simp) ?_
            (try simp only [Act.put, List.getElem_toArray, List.getElem_cons_succ, List.getElem_cons_zero, List.setIfInBounds_toArray, List.set_cons_zero, List.set_cons_succ])
            refine wpList_val (.bool false) (by rfl) (by go_simp) ?_
            (try simp only [Act.put, List.getElem_toArray, List.getElem_cons_succ, List.getElem_cons_zero, List.setIfInBounds_toArray, List.set_cons_zero, List.set_cons_succ])
            refine wpList_val (.pointer (some ⟨b7, 2, none⟩)) (by rfl) (by go_simp) ?_
            (try simp only [Act.put, List.getElem_toArray, List.getElem_cons_succ, List.getElem_cons_zero, List.setIfInBounds_toArray, List.set_cons_zero, List.set_cons_succ])
            refine wpList_val (.int .i64 P) (by rfl) (by have q : wr.cell? ⟨b7, 2, none⟩ = some (.int .i64 P) := (C7.out _ K0.out.below).cell 2; go_simp) ?_
            (try simp only [Act.put, List.getElem_toArray, List.getElem_cons_succ, List.getElem_cons_zero, List.setIfInBounds_toArray, List.set_cons_zero, List.set_cons_succ])
            refine wpList_val (.int .i64 (k : Nat)) (by rfl) (by go_simp) ?_
            (try simp only [Act.put, List.getElem_toArray, List.getElem_cons_succ, List.getElem_cons_zero, List.setIfInBounds_toArray, List.set_cons_zero, List.set_cons_succ])
            refine wpList_val (.int .i64 ((k : Int) + 1)) (by rfl) (by go_simp; exact wrap_i64r (by omega) (by omega)) ?_
            (try simp only [Act.put, List.getElem_toArray, List.getElem_cons_succ, List.getElem_cons_zero, List.setIfInBounds_toArray, List.set_cons_zero, List.set_cons_succ])
            refine wpList_val (.bool false) (by rfl) (by have q := HPK.out; go_simp) ?_
            (try simp only [Act.put, List.getElem_toArray, List.getElem_cons_succ, List.getElem_cons_zero, List.setIfInBounds_toArray, List.set_cons_zero, List.set_cons_succ])
            refine wpList_val (.bool false) (by rfl) (by go_simp) ?_
            (try simp only [Act.put, List.getElem_toArray, List.getElem_cons_succ, List.getElem_cons_zero, List.setIfInBounds_toArray, List.set_cons_zero, List.set_cons_succ])
            refine wpList_val (.bool false) (by rfl) (by go_simp) ?_
            (try simp only [Act.put, List.getElem_toArray, List.getElem_cons_succ, List.getElem_cons_zero, List.setIfInBounds_toArray, List.set_cons_zero, List.set_cons_succ])
            refine wpList_val (.int .i64 0) (by rfl) (by go_simp) ?_
            (try simp only [Act.put, List.getElem_toArray, List.getElem_cons_succ, List.getElem_cons_zero, List.setIfInBounds_toArray, List.set_cons_zero, List.set_cons_succ])
            refine wpList_val (.bool true) (by rfl) (by go_simp) ?_
            (try simp only [Act.put, List.getElem_toArray, List.getElem_cons_succ, List.getElem_cons_zero, List.setIfInBounds_toArray, List.set_cons_zero, List.set_cons_succ])
            refine wpList_val (.slice (some ⟨ga, 0, none⟩) n c5) (by rfl) (by go_simp) ?_
            (try simp only [Act.put, List.getElem_toArray, List.getElem_cons_succ, List.getElem_cons_zero, List.setIfInBounds_toArray, List.set_cons_zero, List.set_cons_succ])
            refine wpList_val (.int .i64 (k : Nat)) (by rfl) (by go_simp) ?_
            (try simp only [Act.put, List.getElem_toArray, List.getElem_cons_succ, List.getElem_cons_zero, List.setIfInBounds_toArray, List.set_cons_zero, List.set_cons_succ])
            refine wpList_val (.pointer (some ⟨ga, k * 8, none⟩)) (by rfl) (by go_simp) ?_
            (try simp only [Act.put, List.getElem_toArray, List.getElem_cons_succ, List.getElem_cons_zero, List.setIfInBounds_toArray, List.set_cons_zero, List.set_cons_succ])
            refine wpList_val (.pointer (some ⟨ga, k * 8, none⟩)) (by rfl) (by go_simp) ?_
            (try simp only [Act.put, List.getElem_toArray, List.getElem_cons_succ, List.getElem_cons_zero, List.setIfInBounds_toArray, List.set_cons_zero, List.set_cons_succ])
            refine wpList_val (.bool false) (by rfl) (by have q := RO.out _ K0.out.below; go_simp) ?_
            (try simp only [Act.put, List.getElem_toArray, List.getElem_cons_succ, List.getElem_cons_zero, List.setIfInBounds_toArray, List.set_cons_zero, List.set_cons_succ])
            refine wpList_val (.bool true) (by rfl) (by go_simp) ?_
            (try simp only [Act.put, List.getElem_toArray, List.getElem_cons_succ, List.getElem_cons_zero, List.setIfInBounds_toArray, List.set_cons_zero, List.set_cons_succ])
            refine wpList_val (.bool false) (by rfl) (by go_simp) ?_
            (try simp only [Act.put, List.getElem_toArray, List.getElem_cons_succ, List.getElem_cons_zero, List.setIfInBounds_toArray, List.set_cons_zero, List.set_cons_succ])
            refine wpList_val (.bool false) (by rfl) (run_pick_no (.tmp 73) (.const (.bool true)) (.tmp 82) _ rfl rfl rfl) ?_
            (try simp only [Act.put, List.getElem_toArray, List.getElem_cons_succ, List.getElem_cons_zero, List.setIfInBounds_toArray, List.set_cons_zero, List.set_cons_succ])
            refine wpList_val (.bool false) (by rfl) (by go_simp) ?_
            (try simp only [Act.put, List.getElem_toArray, List.getElem_cons_succ, List.getElem_cons_zero, List.setIfInBounds_toArray, List.set_cons_zero, List.set_cons_succ])
            refine wpList_val (.slice (some ⟨ga, 0, none⟩) n c5) (by rfl) (by go_simp) ?_
            (try simp only [Act.put, List.getElem_toArray, List.getElem_cons_succ, List.getElem_cons_zero, List.setIfInBounds_toArray, List.set_cons_zero, List.set_cons_succ])
            refine wpList_val (.int .i64 (k : Nat)) (by rfl) (by go_simp) ?_
            (try simp only [Act.put, List.getElem_toArray, List.getElem_cons_succ, List.getElem_cons_zero, List.setIfInBounds_toArray, List.set_cons_zero, List.set_cons_succ])
            refine wpList_val (.pointer (some ⟨ga, k * 8, none⟩)) (by rfl) (by go_simp) ?_
            (try simp only [Act.put, List.getElem_toArray, List.getElem_cons_succ, List.getElem_cons_zero, List.setIfInBounds_toArray, List.set_cons_zero, List.set_cons_succ])
            refine wpList_val (.pointer (some ⟨ga, k * 8, none⟩)) (by rfl) (by go_simp) ?_
            (try simp only [Act.put, List.getElem_toArray, List.getElem_cons_succ, List.getElem_cons_zero, List.setIfInBounds_toArray, List.set_cons_zero, List.set_cons_succ])
            refine wpList_val (.bool false) (by rfl) (by have q := RO.out _ K0.out.below; go_simp) ?_
            (try simp only [Act.put, List.getElem_toArray, List.getElem_cons_succ, List.getElem_cons_zero, List.setIfInBounds_toArray, List.set_cons_zero, List.set_cons_succ])
            refine wpList_val (.bool false) (by rfl) (by go_simp) ?_
            (try simp only [Act.put, List.getElem_toArray, List.getElem_cons_succ, List.getElem_cons_zero, List.setIfInBounds_toArray, List.set_cons_zero, List.set_cons_succ])
            refine wpList_skip (by kernel_rfl) ?_
            (try simp only [Act.put, List.getElem_toArray, List.getElem_cons_succ, List.getElem_cons_zero, List.setIfInBounds_toArray, List.set_cons_zero, List.set_cons_succ])
            refine wpList_skip (by kernel_rfl) ?_
            (try simp only [Act.put, List.getElem_toArray, List.getElem_cons_succ, List.getElem_cons_zero, List.setIfInBounds_toArray, List.set_cons_zero, List.set_cons_succ])
            refine wpList_skip (by kernel_rfl) ?_
            (try simp only [Act.put, List.getElem_toArray, List.getElem_cons_succ, List.getElem_cons_zero, List.setIfInBounds_toArray, List.set_cons_zero, List.set_cons_succ])
            refine wpList_skip (by kernel_rfl) ?_
            (try simp only [Act.put, List.getElem_toArray, List.getElem_cons_succ, List.getElem_cons_zero, List.setIfInBounds_toArray, List.set_cons_zero, List.set_cons_succ])
            refine wpList_skip (by kernel_rfl) ?_
            (try simp only [Act.put, List.getElem_toArray, List.getElem_cons_succ, List.getElem_cons_zero, List.setIfInBounds_toArray, List.set_cons_zero, List.set_cons_succ])
            refine wpList_skip (by kernel_rfl) ?_
            (try simp only [Act.put, List.getElem_toArray, List.getElem_cons_succ, List.getElem_cons_zero, List.setIfInBounds_toArray, List.set_cons_zero, List.set_cons_succ])
            refine wpList_val (.bool false) (by rfl) (run_pick_no (.tmp 90) (.tmp 96) (.const (.bool false)) _ rfl rfl rfl) ?_
            (try simp only [Act.put, List.getElem_toArray, List.getElem_cons_succ, List.getElem_cons_zero, List.setIfInBounds_toArray, List.set_cons_zero, List.set_cons_succ])
            refine wpList_val (.bool false) (by rfl) (by go_simp) ?_
            (try simp only [Act.put, List.getElem_toArray, List.getElem_cons_succ, List.getElem_cons_zero, List.setIfInBounds_toArray, List.set_cons_zero, List.set_cons_succ])
            refine wpList_skip (by kernel_rfl) ?_
            (try simp only [Act.put, List.getElem_toArray, List.getElem_cons_succ, List.getElem_cons_zero, List.setIfInBounds_toArray, List.set_cons_zero, List.set_cons_succ])
            refine wpList_skip (by kernel_rfl) ?_
            (try simp only [Act.put, List.getElem_toArray, List.getElem_cons_succ, List.getElem_cons_zero, List.setIfInBounds_toArray, List.set_cons_zero, List.set_cons_succ])
            refine wpList_val (.bool false) (by rfl) (run_pick_no (.tmp 98) (.tmp 100) (.const (.bool false)) _ rfl rfl rfl) ?_
            (try simp only [Act.put, List.getElem_toArray, List.getElem_cons_succ, List.getElem_cons_zero, List.setIfInBounds_toArray, List.set_cons_zero, List.set_cons_succ])
            refine wpList_val (.bool false) (by rfl) (run_pick_no (.tmp 84) (.const (.bool true)) (.tmp 101) _ rfl rfl rfl) ?_
            (try simp only [Act.put, List.getElem_toArray, List.getElem_cons_succ, List.getElem_cons_zero, List.setIfInBounds_toArray, List.set_cons_zero, List.set_cons_succ])
            refine wpList_nil ?_
            go_upto_region 13 with fail
            refine wp_region_lit ?_
            refine wpList_val (.int .i64 0) (by rfl) (by go_simp) ?_
            (try simp only [Act.put, List.getElem_toArray, List.getElem_cons_succ, List.getElem_cons_zero, List.setIfInBounds_toArray, List.set_cons_zero, List.set_cons_succ])
            refine wpList_val (.bool false) (by rfl) (by go_simp) ?_
            (try simp only [Act.put, List.getElem_toArray, List.getElem_cons_succ, List.getElem_cons_zero, List.setIfInBounds_toArray, List.set_cons_zero, List.set_cons_succ])
            refine wpList_val (.bool false) (by rfl) (by go_simp) ?_
            (try simp only [Act.put, List.getElem_toArray, List.getElem_cons_succ, List.getElem_cons_zero, List.setIfInBounds_toArray, List.set_cons_zero, List.set_cons_succ])
            refine wpList_val (.int .i64 0) (by rfl) (by go_simp) ?_
            (try simp only [Act.put, List.getElem_toArray, List.getElem_cons_succ, List.getElem_cons_zero, List.setIfInBounds_toArray, List.set_cons_zero, List.set_cons_succ])
            refine wpList_val (.bool false) (by rfl) (by go_simp) ?_
            (try simp only [Act.put, List.getElem_toArray, List.getElem_cons_succ, List.getElem_cons_zero, List.setIfInBounds_toArray, List.set_cons_zero, List.set_cons_succ])
            refine wpList_val (.bool false) (by rfl) (run_pick_no (.tmp 105) (.const (.bool true)) (.tmp 107) _ rfl rfl rfl) ?_
            (try simp only [Act.put, List.getElem_toArray, List.getElem_cons_succ, List.getElem_cons_zero, List.setIfInBounds_toArray, List.set_cons_zero, List.set_cons_succ])
            refine wpList_nil ?_
            have hk16 : (k : Int) < 16 := by omega
            go_wp2_with fail
            go_roundw
            case rel => exact ⟨k + 1, by omega, by go_num, BR.out.trans (K0.out.below.mono BR.out.size)⟩
            case measure => simp [intOf]; omega
        case true =>
          cases d
          case false =>
            have hrv : r = 4 := by rw [hrr]; rfl
            clear hrr
            have R1x := Lib.hid (show ∀ W, Below wr.heap.size wr W → W.cell? ⟨g1, k, none⟩ = some (.int .i64 4) from fun W hW => by rw [R1.out W hW, hrv])
            clear hrv
            go_upto_region 8 with fail
            refine wp_region_lit ?_
            refine wpList_val (.int .i64 (k : Nat)) (by rfl) (by go_simp) ?_
            (try simp only [Act.put, List.getElem_toArray, List.getElem_cons_succ, List.getElem_cons_zero, List.setIfInBounds_toArray, List.set_cons_zero, List.set_cons_succ])
            refine wpList_val (.slice (some ⟨ga, 0, none⟩) n c5) (by rfl) (by go_simp) ?_
            (try simp only [Act.put, List.getElem_toArray, List.getElem_cons_succ, List.getElem_cons_zero, List.setIfInBounds_toArray, List.set_cons_zero, List.set_cons_succ])
            refine wpList_val (.int .i64 (n : Nat)) (by rfl) (by go_simp) ?_
            (try simp only [Act.put, List.getElem_toArray, List.getElem_cons_succ, List.getElem_cons_zero, List.setIfInBounds_toArray, List.set_cons_zero, List.set_cons_succ])
            refine wpList_val (.bool true) (by rfl) (by have q := hlt; go_simp) ?_
            (try simp only [Act.put, List.getElem_toArray, List.getElem_cons_succ, List.getElem_cons_zero, List.setIfInBounds_toArray, List.set_cons_zero, List.set_cons_succ])
            refine wpList_nil ?_
            go_upto_region 10 with fail
            refine wp_region_lit ?_
            refine wpList_val (.pointer (some ⟨b7, 3, none⟩)) (by rfl) (by go_simp) ?_
            (try simp only [Act.put, List.getElem_toArray, List.getElem_cons_succ, List.getElem_cons_zero, List.setIfInBounds_toArray, List.set_cons_zero, List.set_cons_succ])
            refine wpList_val (.slice (some ⟨g1, 0, none⟩) n c1) (by rfl) (by have q : wr.cell? ⟨b7, 3, none⟩ = some (.slice (some ⟨g1, 0, none⟩) n c1) := (C7.out _ K0.out.below).cell 3; go_simp) ?_
            (try simp only [Act.put, List.getElem_toArray, List.getElem_cons_succ, List.getElem_cons_zero, List.setIfInBounds_toArray, List.set_cons_zero, List.set_cons_succ])
            refine wpList_val (.int .i64 (k : Nat)) (by rfl) (by go_simp) ?_
            (try simp only [Act.put, List.getElem_toArray, List.getElem_cons_succ, List.getElem_cons_zero, List.setIfInBounds_toArray, List.set_cons_zero, List.set_cons_succ])
            refine wpList_val (.pointer (some ⟨g1, k, none⟩)) (by rfl) (by go_simp) ?_
            (try simp only [Act.put, List.getElem_toArray, List.getElem_cons_succ, List.getElem_cons_zero, List.setIfInBounds_toArray, List.set_cons_zero, List.set_cons_succ])
            refine wpList_val (.int .i64 4) (by rfl) (by have q := R1x.out _ K0.out.below; go_simp) ?_
            (try simp only [Act.put, List.getElem_toArray, List.getElem_cons_succ, List.getElem_cons_zero, List.setIfInBounds_toArray, List.set_cons_zero, List.set_cons_succ])
            refine wpList_val (.int .i64 4) (by rfl) (by go_simp) ?_
            (try simp only [Act.put, List.getElem_toArray, List.getElem_cons_succ, List.getElem_cons_zero, List.setIfInBounds_toArray, List.set_cons_zero, List.set_cons_succ])
            refine wpList_nil ?_
            go_upto_region 11 with fail
            refine wp_region_lit ?_
            refine wpList_val (.int .i64 4) (by rfl) (by go_simp) ?_
            (try simp only [Act.put, List.getElem_toArray, List.getElem_cons_succ, List.getElem_cons_zero, List.setIfInBounds_toArray, List.set_cons_zero, List.set_cons_succ])
            refine wpList_val (.bool false) (by rfl) (by go_simp) ?_
            (try simp only [Act.put, List.getElem_toArray, List.getElem_cons_succ, List.getElem_cons_zero, List.setIfInBounds_toArray, List.set_cons_zero, List.set_cons_succ])
            refine wpList_val (.pointer (some ⟨b7, 2, none⟩)) (by rfl) (by go_simp) ?_
            (try simp only [Act.put, List.getElem_toArray, List.getElem_cons_succ, List.getElem_cons_zero, List.setIfInBounds_toArray, List.set_cons_zero, List.set_cons_succ])
            refine wpList_val (.int .i64 P) (by rfl) (by have q : wr.cell? ⟨b7, 2, none⟩ = some (.int .i64 P) := (C7.out _ K0.out.below).cell 2; go_simp) ?_
            (try simp only [Act.put, List.getElem_toArray, List.getElem_cons_succ, List.getElem_cons_zero, List.setIfInBounds_toArray, List.set_cons_zero, List.set_cons_succ])
            refine wpList_val (.int .i64 (k : Nat)) (by rfl) (by go_simp) ?_
            (try simp only [Act.put, List.getElem_toArray, List.getElem_cons_succ, List.getElem_cons_zero, List.setIfInBounds_toArray, List.set_cons_zero, List.set_cons_succ])
            refine wpList_val (.int .i64 ((k : Int) + 1)) (by rfl) (by go_simp; exact wrap_i64r (by omega) (by omega)) ?_
            (try simp only [Act.put, List.getElem_toArray, List.getElem_cons_succ, List.getElem_cons_zero, List.setIfInBounds_toArray, List.set_cons_zero, List.set_cons_succ])
            refine wpList_val (.bool false) (by rfl) (by have q := HPK.out; go_simp) ?_
            (try simp only [Act.put, List.getElem_toArray, List.getElem_cons_succ, List.getElem_cons_zero, List.setIfInBounds_toArray, List.set_cons_zero, List.set_cons_succ])
            refine wpList_val (.bool false) (by rfl) (by go_simp) ?_
            (try simp only [Act.put, List.getElem_toArray, List.getElem_cons_succ, List.getElem_cons_zero, List.setIfInBounds_toArray, List.set_cons_zero, List.set_cons_succ])
            refine wpList_val (.bool false) (by rfl) (by go_simp) ?_
            (try simp only [Act.put, List.getElem_toArray, List.getElem_cons_succ, List.getElem_cons_zero, List.setIfInBounds_toArray, List.set_cons_zero, List.set_cons_succ])
            refine wpList_val (.int .i64 4) (by rfl) (by go_simp) ?_
            (try simp only [Act.put, List.getElem_toArray, List.getElem_cons_succ, List.getElem_cons_zero, List.setIfInBounds_toArray, List.set_cons_zero, List.set_cons_succ])
            refine wpList_val (.bool false) (by rfl) (by go_simp) ?_
            (try simp only [Act.put, List.getElem_toArray, List.getElem_cons_succ, List.getElem_cons_zero, List.setIfInBounds_toArray, List.set_cons_zero, List.set_cons_succ])
            refine wpList_val (.slice (some ⟨ga, 0, none⟩) n c5) (by rfl) (by go_simp) ?_
            (try simp only [Act.put, List.getElem_toArray, List.getElem_cons_succ, List.getElem_cons_zero, List.setIfInBounds_toArray, List.set_cons_zero, List.set_cons_succ])
            refine wpList_val (.int .i64 (k : Nat)) (by rfl) (by go_simp) ?_
            (try simp only [Act.put, List.getElem_toArray, List.getElem_cons_succ, List.getElem_cons_zero, List.setIfInBounds_toArray, List.set_cons_zero, List.set_cons_succ])
            refine wpList_val (.pointer (some ⟨ga, k * 8, none⟩)) (by rfl) (by go_simp) ?_
            (try simp only [Act.put, List.getElem_toArray, List.getElem_cons_succ, List.getElem_cons_zero, List.setIfInBounds_toArray, List.set_cons_zero, List.set_cons_succ])
            refine wpList_val (.pointer (some ⟨ga, k * 8, none⟩)) (by rfl) (by go_simp) ?_
            (try simp only [Act.put, List.getElem_toArray, List.getElem_cons_succ, List.getElem_cons_zero, List.setIfInBounds_toArray, List.set_cons_zero, List.set_cons_succ])
            refine wpList_val (.bool true) (by rfl) (by have q := RO.out _ K0.out.below; go_simp) ?_
            (try simp only [Act.put, List.getElem_toArray, List.getElem_cons_succ, List.getElem_cons_zero, List.setIfInBounds_toArray, List.set_cons_zero, List.set_cons_succ])
            refine wpList_val (.bool false) (by rfl) (by go_simp) ?_
            (try simp only [Act.put, List.getElem_toArray, List.getElem_cons_succ, List.getElem_cons_zero, List.setIfInBounds_toArray, List.set_cons_zero, List.set_cons_succ])
            refine wpList_val (.bool false) (by rfl) (by go_simp) ?_
            (try simp only [Act.put, List.getElem_toArray, List.getElem_cons_succ, List.getElem_cons_zero, List.setIfInBounds_toArray, List.set_cons_zero, List.set_cons_succ])
            refine wpList_val (.bool false) (by rfl) (run_pick_no (.tmp 73) (.const (.bool true)) (.tmp 82) _ rfl rfl rfl) ?_
            (try simp only [Act.put, List.getElem_toArray, List.getElem_cons_succ, List.getElem_cons_zero, List.setIfInBounds_toArray, List.set_cons_zero, List.set_cons_succ])
            refine wpList_val (.bool false) (by rfl) (by go_simp) ?_
            (try simp only [Act.put, List.getElem_toArray, List.getElem_cons_succ, List.getElem_cons_zero, List.setIfInBounds_toArray, List.set_cons_zero, List.set_cons_succ])
            refine wpList_val (.slice (some ⟨ga, 0, none⟩) n c5) (by rfl) (by go_simp) ?_
            (try simp only [Act.put, List.getElem_toArray, List.getElem_cons_succ, List.getElem_cons_zero, List.setIfInBounds_toArray, List.set_cons_zero, List.set_cons_succ])
            refine wpList_val (.int .i64 (k : Nat)) (by rfl) (by go_simp) ?_
            (try simp only [Act.put, List.getElem_toArray, List.getElem_cons_succ, List.getElem_cons_zero, List.setIfInBounds_toArray, List.set_cons_zero, List.set_cons_succ])
            refine wpList_val (.pointer (some ⟨ga, k * 8, none⟩)) (by rfl) (by go_simp) ?_
            (try simp only [Act.put, List.getElem_toArray, List.getElem_cons_succ, List.getElem_cons_zero, List.setIfInBounds_toArray, List.set_cons_zero, List.set_cons_succ])
            refine wpList_val (.pointer (some ⟨ga, k * 8, none⟩)) (by rfl) (by go_simp) ?_
            (try simp only [Act.put, List.getElem_toArray, List.getElem_cons_succ, List.getElem_cons_zero, List.setIfInBounds_toArray, List.set_cons_zero, List.set_cons_succ])
            refine wpList_val (.bool true) (by rfl) (by have q := RO.out _ K0.out.below; go_simp) ?_
            (try simp only [Act.put, List.getElem_toArray, List.getElem_cons_succ, List.getElem_cons_zero, List.setIfInBounds_toArray, List.set_cons_zero, List.set_cons_succ])
            refine wpList_val (.bool true) (by rfl) (by go_simp) ?_
            (try simp only [Act.put, List.getElem_toArray, List.getElem_cons_succ, List.getElem_cons_zero, List.setIfInBounds_toArray, List.set_cons_zero, List.set_cons_succ])
            refine wpList_val (.slice (some ⟨ga, 0, none⟩) n c5) (by rfl) (by go_simp) ?_
            (try simp only [Act.put, List.getElem_toArray, List.getElem_cons_succ, List.getElem_cons_zero, List.setIfInBounds_toArray, List.set_cons_zero, List.set_cons_succ])
            refine wpList_val (.int .i64 (k : Nat)) (by rfl) (by go_simp) ?_
            (try simp only [Act.put, List.getElem_toArray, List.getElem_cons_succ, List.getElem_cons_zero, List.setIfInBounds_toArray, List.set_cons_zero, List.set_cons_succ])
            refine wpList_val (.pointer (some ⟨ga, k * 8, none⟩)) (by rfl) (by go_simp) ?_
            (try simp only [Act.put, List.getElem_toArray, List.getElem_cons_succ, List.getElem_cons_zero, List.setIfInBounds_toArray, List.set_cons_zero, List.set_cons_succ])
            refine wpList_val (.pointer (some ⟨ga, k * 8 + 1, none⟩)) (by rfl) (by go_simp) ?_
            (try simp only [Act.put, List.getElem_toArray, List.getElem_cons_succ, List.getElem_cons_zero, List.setIfInBounds_toArray, List.set_cons_zero, List.set_cons_succ])
            refine wpList_val (.bool false) (by rfl) (by have q := RD.out _ K0.out.below; go_simp) ?_
            (try simp only [Act.put, List.getElem_toArray, List.getElem_cons_succ, List.getElem_cons_zero, List.setIfInBounds_toArray, List.set_cons_zero, List.set_cons_succ])
            refine wpList_val (.bool true) (by rfl) (by go_simp) ?_
            (try simp only [Act.put, List.getElem_toArray, List.getElem_cons_succ, List.getElem_cons_zero, List.setIfInBounds_toArray, List.set_cons_zero, List.set_cons_succ])
            refine wpList_val (.bool true) (by rfl) (run_pick_yes (.tmp 90) (.tmp 96) (.const (.bool false)) _ rfl rfl rfl) ?_
            (try simp only [Act.put, List.getElem_toArray, List.getElem_cons_succ, List.getElem_cons_zero, List.setIfInBounds_toArray, List.set_cons_zero, List.set_cons_succ])
            refine wpList_val (.bool true) (by rfl) (by go_simp) ?_
            (try simp only [Act.put, List.getElem_toArray, List.getElem_cons_succ, List.getElem_cons_zero, List.setIfInBounds_toArray, List.set_cons_zero, List.set_cons_succ])
            refine wpList_val (.int .i64 4) (by rfl) (by go_simp) ?_
            (try simp only [Act.put, List.getElem_toArray, List.getElem_cons_succ, List.getElem_cons_zero, List.setIfInBounds_toArray, List.set_cons_zero, List.set_cons_succ])
            refine wpList_val (.bool false) (by rfl) (by go_simp) ?_
            (try simp only [Act.put, List.getElem_toArray, List.getElem_cons_succ, List.getElem_cons_zero, List.setIfInBounds_toArray, List.set_cons_zero, List.set_cons_succ])
            refine wpList_val (.bool false) (by rfl) (run_pick_yes (.tmp 98) (.tmp 100) (.const (.bool false)) _ rfl rfl rfl) ?_
            (try simp only [Act.put, List.getElem_toArray, List.getElem_cons_succ, List.getElem_cons_zero, List.setIfInBounds_toArray, List.set_cons_zero, List.set_cons_succ])
            refine wpList_val (.bool false) (by rfl) (run_pick_no (.tmp 84) (.const (.bool true)) (.tmp 101) _ rfl rfl rfl) ?_
            (try simp only [Act.put, List.getElem_toArray, List.getElem_cons_succ, List.getElem_cons_zero, List.setIfInBounds_toArray, List.set_cons_zero, List.set_cons_succ])
            refine wpList_nil ?_
            go_upto_region 13 with fail
            refine wp_region_lit ?_
            refine wpList_val (.int .i64 4) (by rfl) (by go_simp) ?_
            (try simp only [Act.put, List.getElem_toArray, List.getElem_cons_succ, List.getElem_cons_zero, List.setIfInBounds_toArray, List.set_cons_zero, List.set_cons_succ])
            refine wpList_val (.bool false) (by rfl) (by go_simp) ?_
            (try simp only [Act.put, List.getElem_toArray, List.getElem_cons_succ, List.getElem_cons_zero, List.setIfInBounds_toArray, List.set_cons_zero, List.set_cons_succ])
            refine wpList_val (.bool false) (by rfl) (by go_simp) ?_
            (try simp only [Act.put, List.getElem_toArray, List.getElem_cons_succ, List.getElem_cons_zero, List.setIfInBounds_toArray, List.set_cons_zero, List.set_cons_succ])
            refine wpList_val (.int .i64 4) (by rfl) (by go_simp) ?_
            (try simp only [Act.put, List.getElem_toArray, List.getElem_cons_succ, List.getElem_cons_zero, List.setIfInBounds_toArray, List.set_cons_zero, List.set_cons_succ])
            refine wpList_val (.bool false) (by rfl) (by go_simp) ?_
            (try simp only [Act.put, List.getElem_toArray, List.getElem_cons_succ, List.getElem_cons_zero, List.setIfInBounds_toArray, List.set_cons_zero, List.set_cons_succ])
            refine wpList_val (.bool false) (by rfl) (run_pick_no (.tmp 105) (.const (.bool true)) (.tmp 107) _ rfl rfl rfl) ?_
            (try simp only [Act.put, List.getElem_toArray, List.getElem_cons_succ, List.getElem_cons_zero, List.setIfInBounds_toArray, List.set_cons_zero, List.set_cons_succ])
            refine wpList_nil ?_
            have hk16 : (k : Int) < 16 := by omega
            go_wp2_with fail
            go_roundw
            case rel => exact ⟨k + 1, by omega, by go_num, BR.out.trans (K0.out.below.mono BR.out.size)⟩
            case measure => simp [intOf]; omega
          case true =>
            cases hls : lessV x.v t
            case false =>
              have hrv : r = 4 := by rw [hrr, hls]; rfl
              clear hrr
              have R1x := Lib.hid (show ∀ W, Below wr.heap.size wr W → W.cell? ⟨g1, k, none⟩ = some (.int .i64 4) from fun W hW => by rw [R1.out W hW, hrv])
              clear hrv
              go_upto_region 8 with fail
              refine wp_region_lit ?_
              refine wpList_val (.int .i64 (k : Nat)) (by rfl) (by go_simp) ?_
              (try simp only [Act.put, List.getElem_toArray, List.getElem_cons_succ, List.getElem_cons_zero, List.setIfInBounds_toArray, List.set_cons_zero, List.set_cons_succ])
              refine wpList_val (.slice (some ⟨ga, 0, none⟩) n c5) (by rfl) (by go_simp) ?_
              (try simp only [Act.put, List.getElem_toArray, List.getElem_cons_succ, List.getElem_cons_zero, List.setIfInBounds_toArray, List.set_cons_zero, List.set_cons_succ])
              refine wpList_val (.int .i64 (n : Nat)) (by rfl) (by go_simp) ?_
              (try simp only [Act.put, List.getElem_toArray, List.getElem_cons_succ, List.getElem_cons_zero, List.setIfInBounds_toArray, List.set_cons_zero, List.set_cons_succ])
              refine wpList_val (.bool true) (by rfl) (by have q := hlt; go_simp) ?_
              (try simp only [Act.put, List.getElem_toArray, List.getElem_cons_succ, List.getElem_cons_zero, List.setIfInBounds_toArray, List.set_cons_zero, List.set_cons_succ])
              refine wpList_nil ?_
              go_upto_region 10 with fail
              refine wp_region_lit ?_
              refine wpList_val (.pointer (some ⟨b7, 3, none⟩)) (by rfl) (by go_simp) ?_
              (try simp only [Act.put, List.getElem_toArray, List.getElem_cons_succ, List.getElem_cons_zero, List.setIfInBounds_toArray, List.set_cons_zero, List.set_cons_succ])
              refine wpList_val (.slice (some ⟨g1, 0, none⟩) n c1) (by rfl) (by have q : wr.cell? ⟨b7, 3, none⟩ = some (.slice (some ⟨g1, 0, none⟩) n c1) := (C7.out _ K0.out.below).cell 3; go_simp) ?_
              (try simp only [Act.put, List.getElem_toArray, List.getElem_cons_succ, List.getElem_cons_zero, List.setIfInBounds_toArray, List.set_cons_zero, List.set_cons_succ])
              refine wpList_val (.int .i64 (k : Nat)) (by rfl) (by go_simp) ?_
              (try simp only [Act.put, List.getElem_toArray, List.getElem_cons_succ, List.getElem_cons_zero, List.setIfInBounds_toArray, List.set_cons_zero, List.set_cons_succ])
              refine wpList_val (.pointer (some ⟨g1, k, none⟩)) (by rfl) (by go_simp) ?_
              (try simp only [Act.put, List.getElem_toArray, List.getElem_cons_succ, List.getElem_cons_zero, List.setIfInBounds_toArray, List.set_cons_zero, List.set_cons_succ])
              refine wpList_val (.int .i64 4) (by rfl) (by have q := R1x.out _ K0.out.below; go_simp) ?_
              (try simp only [Act.put, List.getElem_toArray, List.getElem_cons_succ, List.getElem_cons_zero, List.setIfInBounds_toArray, List.set_cons_zero, List.set_cons_succ])
              refine wpList_val (.int .i64 4) (by rfl) (by go_simp) ?_
              (try simp only [Act.put, List.getElem_toArray, List.getElem_cons_succ, List.getElem_cons_zero, List.setIfInBounds_toArray, List.set_cons_zero, List.set_cons_succ])
              refine wpList_nil ?_
              go_upto_region 11 with fail
              refine wp_region_lit ?_
              refine wpList_val (.int .i64 4) (by rfl) (by go_simp) ?_
              (try simp only [Act.put, List.getElem_toArray, List.getElem_cons_succ, List.getElem_cons_zero, List.setIfInBounds_toArray, List.set_cons_zero, List.set_cons_succ])
              refine wpList_val (.bool false) (by rfl) (by go_simp) ?_
              (try simp only [Act.put, List.getElem_toArray, List.getElem_cons_succ, List.getElem_cons_zero, List.setIfInBounds_toArray, List.set_cons_zero, List.set_cons_succ])
              refine wpList_val (.pointer (some ⟨b7, 2, none⟩)) (by rfl) (by go_simp) ?_
              (try simp only [Act.put, List.getElem_toArray, List.getElem_cons_succ, List.getElem_cons_zero, List.setIfInBounds_toArray, List.set_cons_zero, List.set_cons_succ])
              refine wpList_val (.int .i64 P) (by rfl) (by have q : wr.cell? ⟨b7, 2, none⟩ = some (.int .i64 P) := (C7.out _ K0.out.below).cell 2; go_simp) ?_
              (try simp only [Act.put, List.getElem_toArray, List.getElem_cons_succ, List.getElem_cons_zero, List.setIfInBounds_toArray, List.set_cons_zero, List.set_cons_succ])
              refine wpList_val (.int .i64 (k : Nat)) (by rfl) (by go_simp) ?_
              (try simp only [Act.put, List.getElem_toArray, List.getElem_cons_succ, List.getElem_cons_zero, List.setIfInBounds_toArray, List.set_cons_zero, List.set_cons_succ])
              refine wpList_val (.int .i64 ((k : Int) + 1)) (by rfl) (by go_simp; exact wrap_i64r (by omega) (by omega)) ?_
              (try simp only [Act.put, List.getElem_toArray, List.getElem_cons_succ, List.getElem_cons_zero, List.setIfInBounds_toArray, List.set_cons_zero, List.set_cons_succ])
              refine wpList_val (.bool false) (by rfl) (by have q := HPK.out; go_simp) ?_
              (try simp only [Act.put, List.getElem_toArray, List.getElem_cons_succ, List.getElem_cons_zero, List.setIfInBounds_toArray, List.set_cons_zero, List.set_cons_succ])
              refine wpList_val (.bool false) (by rfl) (by go_simp) ?_
              (try simp only [Act.put, List.getElem_toArray, List.getElem_cons_succ, List.getElem_cons_zero, List.setIfInBounds_toArray, List.set_cons_zero, List.set_cons_succ])
              refine wpList_val (.bool false) (by rfl) (by go_simp) ?_
              (try simp only [Act.put, List.getElem_toArray, List.getElem_cons_succ, List.getElem_cons_zero, List.setIfInBounds_toArray, List.set_cons_zero, List.set_cons_succ])
              refine wpList_val (.int .i64 4) (by rfl) (by go_simp) ?_
              (try simp only [Act.put, List.getElem_toArray, List.getElem_cons_succ, List.getElem_cons_zero, List.setIfInBounds_toArray, List.set_cons_zero, List.set_cons_succ])
              refine wpList_val (.bool false) (by rfl) (by go_simp) ?_
              (try simp only [Act.put, List.getElem_toArray, List.getElem_cons_succ, List.getElem_cons_zero, List.setIfInBounds_toArray, List.set_cons_zero, List.set_cons_succ])
              refine wpList_val (.slice (some ⟨ga, 0, none⟩) n c5) (by rfl) (by go_simp) ?_
              (try simp only [Act.put, List.getElem_toArray, List.getElem_cons_succ, List.getElem_cons_zero, List.setIfInBounds_toArray, List.set_cons_zero, List.set_cons_succ])
              refine wpList_val (.int .i64 (k : Nat)) (by rfl) (by go_simp) ?_
              (try simp only [Act.put, List.getElem_toArray, List.getElem_cons_succ, List.getElem_cons_zero, List.setIfInBounds_toArray, List.set_cons_zero, List.set_cons_succ])
              refine wpList_val (.pointer (some ⟨ga, k * 8, none⟩)) (by rfl) (by go_simp) ?_
              (try simp only [Act.put, List.getElem_toArray, List.getElem_cons_succ, List.getElem_cons_zero, List.setIfInBounds_toArray, List.set_cons_zero, List.set_cons_succ])
              refine wpList_val (.pointer (some ⟨ga, k * 8, none⟩)) (by rfl) (by go_simp) ?_
              (try simp only [Act.put, List.getElem_toArray, List.getElem_cons_succ, List.getElem_cons_zero, List.setIfInBounds_toArray, List.set_cons_zero, List.set_cons_succ])
              refine wpList_val (.bool true) (by rfl) (by have q := RO.out _ K0.out.below; go_simp) ?_
              (try simp only [Act.put, List.getElem_toArray, List.getElem_cons_succ, List.getElem_cons_zero, List.setIfInBounds_toArray, List.set_cons_zero, List.set_cons_succ])
              refine wpList_val (.bool false) (by rfl) (by go_simp) ?_
              (try simp only [Act.put, List.getElem_toArray, List.getElem_cons_succ, List.getElem_cons_zero, List.setIfInBounds_toArray, List.set_cons_zero, List.set_cons_succ])
              refine wpList_val (.bool false) (by rfl) (by go_simp) ?_
              (try simp only [Act.put, List.getElem_toArray, List.getElem_cons_succ, List.getElem_cons_zero, List.setIfInBounds_toArray, List.set_cons_zero, List.set_cons_succ])
              refine wpList_val (.bool false) (by rfl) (run_pick_no (.tmp 73) (.const (.bool true)) (.tmp 82) _ rfl rfl rfl) ?_
              (try simp only [Act.put, List.getElem_toArray, List.getElem_cons_succ, List.getElem_cons_zero, List.setIfInBounds_toArray, List.set_cons_zero, List.set_cons_succ])
              refine wpList_val (.bool false) (by rfl) (by go_simp) ?_
              (try simp only [Act.put, List.getElem_toArray, List.getElem_cons_succ, List.getElem_cons_zero, List.setIfInBounds_toArray, List.set_cons_zero, List.set_cons_succ])
              refine wpList_val (.slice (some ⟨ga, 0, none⟩) n c5) (by rfl) (by go_simp) ?_
              (try simp only [Act.put, List.getElem_toArray, List.getElem_cons_succ, List.getElem_cons_zero, List.setIfInBounds_toArray, List.set_cons_zero, List.set_cons_succ])
              refine wpList_val (.int .i64 (k : Nat)) (by rfl) (by go_simp) ?_
              (try simp only [Act.put, List.getElem_toArray, List.getElem_cons_succ, List.getElem_cons_zero, List.setIfInBounds_toArray, List.set_cons_zero, List.set_cons_succ])
              refine wpList_val (.pointer (some ⟨ga, k * 8, none⟩)) (by rfl) (by go_simp) ?_
              (try simp only [Act.put, List.getElem_toArray, List.getElem_cons_succ, List.getElem_cons_zero, List.setIfInBounds_toArray, List.set_cons_zero, List.set_cons_succ])
              refine wpList_val (.pointer (some ⟨ga, k * 8, none⟩)) (by rfl) (by go_simp) ?_
              (try simp only [Act.put, List.getElem_toArray, List.getElem_cons_succ, List.getElem_cons_zero, List.setIfInBounds_toArray, List.set_cons_zero, List.set_cons_succ])
              refine wpList_val (.bool true) (by rfl) (by have q := RO.out _ K0.out.below; go_simp) ?_
              (try simp only [Act.put, List.getElem_toArray, List.getElem_cons_succ, List.getElem_cons_zero, List.setIfInBounds_toArray, List.set_cons_zero, List.set_cons_succ])
              refine wpList_val (.bool true) (by rfl) (by go_simp) ?_
              (try simp only [Act.put, List.getElem_toArray, List.getElem_cons_succ, List.getElem_cons_zero, List.setIfInBounds_toArray, List.set_cons_zero, List.set_cons_succ])
              refine wpList_val (.slice (some ⟨ga, 0, none⟩) n c5) (by rfl) (by go_simp) ?_
              (try simp only [Act.put, List.getElem_toArray, List.getElem_cons_succ, List.getElem_cons_zero, List.setIfInBounds_toArray, List.set_cons_zero, List.set_cons_succ])
              refine wpList_val (.int .i64 (k : Nat)) (by rfl) (by go_simp) ?_
              (try simp only [Act.put, List.getElem_toArray, List.getElem_cons_succ, List.getElem_cons_zero, List.setIfInBounds_toArray, List.set_cons_zero, List.set_cons_succ])
              refine wpList_val (.pointer (some ⟨ga, k * 8, none⟩)) (by rfl) (by go_simp) ?_
              (try simp only [Act.put, List.getElem_toArray, List.getElem_cons_succ, List.getElem_cons_zero, List.setIfInBounds_toArray, List.set_cons_zero, List.set_cons_succ])
              refine wpList_val (.pointer (some ⟨ga, k * 8 + 1, none⟩)) (by rfl) (by go_simp) ?_
              (try simp only [Act.put, List.getElem_toArray, List.getElem_cons_succ, List.getElem_cons_zero, List.setIfInBounds_toArray, List.set_cons_zero, List.set_cons_succ])
              refine wpList_val (.bool true) (by rfl) (by have q := RD.out _ K0.out.below; go_simp) ?_
              (try simp only [Act.put, List.getElem_toArray, List.getElem_cons_succ, List.getElem_cons_zero, List.setIfInBounds_toArray, List.set_cons_zero, List.set_cons_succ])
              refine wpList_val (.bool false) (by rfl) (by go_simp) ?_
              (try simp only [Act.put, List.getElem_toArray, List.getElem_cons_succ, List.getElem_cons_zero, List.setIfInBounds_toArray, List.set_cons_zero, List.set_cons_succ])
              refine wpList_val (.bool false) (by rfl) (run_pick_yes (.tmp 90) (.tmp 96) (.const (.bool false)) _ rfl rfl rfl) ?_
              (try simp only [Act.put, List.getElem_toArray, List.getElem_cons_succ, List.getElem_cons_zero, List.setIfInBounds_toArray, List.set_cons_zero, List.set_cons_succ])
              refine wpList_val (.bool false) (by rfl) (by go_simp) ?_
              (try simp only [Act.put, List.getElem_toArray, List.getElem_cons_succ, List.getElem_cons_zero, List.setIfInBounds_toArray, List.set_cons_zero, List.set_cons_succ])
              refine wpList_skip (by kernel_rfl) ?_
              (try simp only [Act.put, List.getElem_toArray, List.getElem_cons_succ, List.getElem_cons_zero, List.setIfInBounds_toArray, List.set_cons_zero, List.set_cons_succ])
              refine wpList_skip (by kernel_rfl) ?_
              (try simp only [Act.put, List.getElem_toArray, List.getElem_cons_succ, List.getElem_cons_zero, List.setIfInBounds_toArray, List.set_cons_zero, List.set_cons_succ])
              refine wpList_val (.bool false) (by rfl) (run_pick_no (.tmp 98) (.tmp 100) (.const (.bool false)) _ rfl rfl rfl) ?_
              (try simp only [Act.put, List.getElem_toArray, List.getElem_cons_succ, List.getElem_cons_zero, List.setIfInBounds_toArray, List.set_cons_zero, List.set_cons_succ])
              refine wpList_val (.bool false) (by rfl) (run_pick_no (.tmp 84) (.const (.bool true)) (.tmp 101) _ rfl rfl rfl) ?_
              (try simp only [Act.put, List.getElem_toArray, List.getElem_cons_succ, List.getElem_cons_zero, List.setIfInBounds_toArray, List.set_cons_zero, List.set_cons_succ])
              refine wpList_nil ?_
              go_upto_region 13 with fail
              refine wp_region_lit ?_
              refine wpList_val (.int .i64 4) (by rfl) (by go_simp) ?_
              (try simp only [Act.put, List.getElem_toArray, List.getElem_cons_succ, List.getElem_cons_zero, List.setIfInBounds_toArray, List.set_cons_zero, List.set_cons_succ])
              refine wpList_val (.bool false) (by rfl) (by go_simp) ?_
              (try simp only [Act.put, List.getElem_toArray, List.getElem_cons_succ, List.getElem_cons_zero, List.setIfInBounds_toArray, List.set_cons_zero, List.set_cons_succ])
              refine wpList_val (.bool false) (by rfl) (by go_simp) ?_
              (try simp only [Act.put, List.getElem_toArray, List.getElem_cons_succ, List.getElem_cons_zero, List.setIfInBounds_toArray, List.set_cons_zero, List.set_cons_succ])
              refine wpList_val (.int .i64 4) (by rfl) (by go_simp) ?_
              (try simp only [Act.put, List.getElem_toArray, List.getElem_cons_succ, List.getElem_cons_zero, List.setIfInBounds_toArray, List.set_cons_zero, List.set_cons_succ])
              refine wpList_val (.bool false) (by rfl) (by go_simp) ?_
              (try simp only [Act.put, List.getElem_toArray, List.getElem_cons_succ, List.getElem_cons_zero, List.setIfInBounds_toArray, List.set_cons_zero, List.set_cons_succ])
              refine wpList_val (.bool false) (by rfl) (run_pick_no (.tmp 105) (.const (.bool true)) (.tmp 107) _ rfl rfl rfl) ?_
              (try simp only [Act.put, List.getElem_toArray, List.getElem_cons_succ, List.getElem_cons_zero, List.setIfInBounds_toArray, List.set_cons_zero, List.set_cons_succ])
              refine wpList_nil ?_
              have hk16 : (k : Int) < 16 := by omega
              go_wp2_with fail
              go_roundw
              case rel => exact ⟨k + 1, by omega, by go_num, BR.out.trans (K0.out.below.mono BR.out.size)⟩
              case measure => simp [intOf]; omega
            case true =>
              by_cases hbs : x.v.b = self
              case pos =>
                have hrv : r = 2 := by rw [hrr, hls]; simp [hbs]
                clear hrr
                have R1x := Lib.hid (show ∀ W, Below wr.heap.size wr W → W.cell? ⟨g1, k, none⟩ = some (.int .i64 2) from fun W hW => by rw [R1.out W hW, hrv])
                clear hrv
                go_upto_region 8 with fail
                refine wp_region_lit ?_
                refine wpList_val (.int .i64 (k : Nat)) (by rfl) (by go_simp) ?_
                (try simp only [Act.put, List.getElem_toArray, List.getElem_cons_succ, List.getElem_cons_zero, List.setIfInBounds_toArray, List.set_cons_zero, List.set_cons_succ])
                refine wpList_val (.slice (some ⟨ga, 0, none⟩) n c5) (by rfl) (by go_simp) ?_
                (try simp only [Act.put, List.getElem_toArray, List.getElem_cons_succ, List.getElem_cons_zero, List.setIfInBounds_toArray, List.set_cons_zero, List.set_cons_succ])
                refine wpList_val (.int .i64 (n : Nat)) (by rfl) (by go_simp) ?_
                (try simp only [Act.put, List.getElem_toArray, List.getElem_cons_succ, List.getElem_cons_zero, List.setIfInBounds_toArray, List.set_cons_zero, List.set_cons_succ])
                refine wpList_val (.bool true) (by rfl) (by have q := hlt; go_simp) ?_
                (try simp only [Act.put, List.getElem_toArray, List.getElem_cons_succ, List.getElem_cons_zero, List.setIfInBounds_toArray, List.set_cons_zero, List.set_cons_succ])
                refine wpList_nil ?_
                go_upto_region 10 with fail
                refine wp_region_lit ?_
                refine wpList_val (.pointer (some ⟨b7, 3, none⟩)) (by rfl) (by go_simp) ?_
                (try simp only [Act.put, List.getElem_toArray, List.getElem_cons_succ, List.getElem_cons_zero, List.setIfInBounds_toArray, List.set_cons_zero, List.set_cons_succ])
                refine wpList_val (.slice (some ⟨g1, 0, none⟩) n c1) (by rfl) (by have q : wr.cell? ⟨b7, 3, none⟩ = some (.slice (some ⟨g1, 0, none⟩) n c1) := (C7.out _ K0.out.below).cell 3; go_simp) ?_
                (try simp only [Act.put, List.getElem_toArray, List.getElem_cons_succ, List.getElem_cons_zero, List.setIfInBounds_toArray, List.set_cons_zero, List.set_cons_succ])
                refine wpList_val (.int .i64 (k : Nat)) (by rfl) (by go_simp) ?_
                (try simp only [Act.put, List.getElem_toArray, List.getElem_cons_succ, List.getElem_cons_zero, List.setIfInBounds_toArray, List.set_cons_zero, List.set_cons_succ])
                refine wpList_val (.pointer (some ⟨g1, k, none⟩)) (by rfl) (by go_simp) ?_
                (try simp only [Act.put, List.getElem_toArray, List.getElem_cons_succ, List.getElem_cons_zero, List.setIfInBounds_toArray, List.set_cons_zero, List.set_cons_succ])
                refine wpList_val (.int .i64 2) (by rfl) (by have q := R1x.out _ K0.out.below; go_simp) ?_
                (try simp only [Act.put, List.getElem_toArray, List.getElem_cons_succ, List.getElem_cons_zero, List.setIfInBounds_toArray, List.set_cons_zero, List.set_cons_succ])
                refine wpList_val (.int .i64 2) (by rfl) (by go_simp) ?_
                (try simp only [Act.put, List.getElem_toArray, List.getElem_cons_succ, List.getElem_cons_zero, List.setIfInBounds_toArray, List.set_cons_zero, List.set_cons_succ])
                refine wpList_nil ?_
                go_upto_region 11 with fail
                refine wp_region_lit ?_
                refine wpList_val (.int .i64 2) (by rfl) (by go_simp) ?_
                (try simp only [Act.put, List.getElem_toArray, List.getElem_cons_succ, List.getElem_cons_zero, List.setIfInBounds_toArray, List.set_cons_zero, List.set_cons_succ])
                refine wpList_val (.bool false) (by rfl) (by go_simp) ?_
                (try simp only [Act.put, List.getElem_toArray, List.getElem_cons_succ, List.getElem_cons_zero, List.setIfInBounds_toArray, List.set_cons_zero, List.set_cons_succ])
                refine wpList_val (.pointer (some ⟨b7, 2, none⟩)) (by rfl) (by go_simp) ?_
                (try simp only [Act.put, List.getElem_toArray, List.getElem_cons_succ, List.getElem_cons_zero, List.setIfInBounds_toArray, List.set_cons_zero, List.set_cons_succ])
                refine wpList_val (.int .i64 P) (by rfl) (by have q : wr.cell? ⟨b7, 2, none⟩ = some (.int .i64 P) := (C7.out _ K0.out.below).cell 2; go_simp) ?_
                (try simp only [Act.put, List.getElem_toArray, List.getElem_cons_succ, List.getElem_cons_zero, List.setIfInBounds_toArray, List.set_cons_zero, List.set_cons_succ])
                refine wpList_val (.int .i64 (k : Nat)) (by rfl) (by go_simp) ?_
                (try simp only [Act.put, List.getElem_toArray, List.getElem_cons_succ, List.getElem_cons_zero, List.setIfInBounds_toArray, List.set_cons_zero, List.set_cons_succ])
                refine wpList_val (.int .i64 ((k : Int) + 1)) (by rfl) (by go_simp; exact wrap_i64r (by omega) (by omega)) ?_
                (try simp only [Act.put, List.getElem_toArray, List.getElem_cons_succ, List.getElem_cons_zero, List.setIfInBounds_toArray, List.set_cons_zero, List.set_cons_succ])
                refine wpList_val (.bool false) (by rfl) (by have q := HPK.out; go_simp) ?_
                (try simp only [Act.put, List.getElem_toArray, List.getElem_cons_succ, List.getElem_cons_zero, List.setIfInBounds_toArray, List.set_cons_zero, List.set_cons_succ])
                refine wpList_val (.bool false) (by rfl) (by go_simp) ?_
                (try simp only [Act.put, List.getElem_toArray, List.getElem_cons_succ, List.getElem_cons_zero, List.setIfInBounds_toArray, List.set_cons_zero, List.set_cons_succ])
                refine wpList_val (.bool false) (by rfl) (by go_simp) ?_
                (try simp only [Act.put, List.getElem_toArray, List.getElem_cons_succ, List.getElem_cons_zero, List.setIfInBounds_toArray, List.set_cons_zero, List.set_cons_succ])
                refine wpList_val (.int .i64 2) (by rfl) (by go_simp) ?_
                (try simp only [Act.put, List.getElem_toArray, List.getElem_cons_succ, List.getElem_cons_zero, List.setIfInBounds_toArray, List.set_cons_zero, List.set_cons_succ])
                refine wpList_val (.bool false) (by rfl) (by go_simp) ?_
                (try simp only [Act.put, List.getElem_toArray, List.getElem_cons_succ, List.getElem_cons_zero, List.setIfInBounds_toArray, List.set_cons_zero, List.set_cons_succ])
                refine wpList_val (.slice (some ⟨ga, 0, none⟩) n c5) (by rfl) (by go_simp) ?_
                (try simp only [Act.put, List.getElem_toArray, List.getElem_cons_succ, List.getElem_cons_zero, List.setIfInBounds_toArray, List.set_cons_zero, List.set_cons_succ])
                refine wpList_val (.int .i64 (k : Nat)) (by rfl) (by go_simp) ?_
                (try simp only [Act.put, List.getElem_toArray, List.getElem_cons_succ, List.getElem_cons_zero, List.setIfInBounds_toArray, List.set_cons_zero, List.set_cons_succ])
                refine wpList_val (.pointer (some ⟨ga, k * 8, none⟩)) (by rfl) (by go_simp) ?_
                (try simp only [Act.put, List.getElem_toArray, List.getElem_cons_succ, List.getElem_cons_zero, List.setIfInBounds_toArray, List.set_cons_zero, List.set_cons_succ])
                refine wpList_val (.pointer (some ⟨ga, k * 8, none⟩)) (by rfl) (by go_simp) ?_
                (try simp only [Act.put, List.getElem_toArray, List.getElem_cons_succ, List.getElem_cons_zero, List.setIfInBounds_toArray, List.set_cons_zero, List.set_cons_succ])
                refine wpList_val (.bool true) (by rfl) (by have q := RO.out _ K0.out.below; go_simp) ?_
                (try simp only [Act.put, List.getElem_toArray, List.getElem_cons_succ, List.getElem_cons_zero, List.setIfInBounds_toArray, List.set_cons_zero, List.set_cons_succ])
                refine wpList_val (.bool false) (by rfl) (by go_simp) ?_
                (try simp only [Act.put, List.getElem_toArray, List.getElem_cons_succ, List.getElem_cons_zero, List.setIfInBounds_toArray, List.set_cons_zero, List.set_cons_succ])
                refine wpList_val (.bool false) (by rfl) (by go_simp) ?_
                (try simp only [Act.put, List.getElem_toArray, List.getElem_cons_succ, List.getElem_cons_zero, List.setIfInBounds_toArray, List.set_cons_zero, List.set_cons_succ])
                refine wpList_val (.bool false) (by rfl) (run_pick_no (.tmp 73) (.const (.bool true)) (.tmp 82) _ rfl rfl rfl) ?_
                (try simp only [Act.put, List.getElem_toArray, List.getElem_cons_succ, List.getElem_cons_zero, List.setIfInBounds_toArray, List.set_cons_zero, List.set_cons_succ])
                refine wpList_val (.bool false) (by rfl) (by go_simp) ?_
                (try simp only [Act.put, List.getElem_toArray, List.getElem_cons_succ, List.getElem_cons_zero, List.setIfInBounds_toArray, List.set_cons_zero, List.set_cons_succ])
                refine wpList_val (.slice (some ⟨ga, 0, none⟩) n c5) (by rfl) (by go_simp) ?_
                (try simp only [Act.put, List.getElem_toArray, List.getElem_cons_succ, List.getElem_cons_zero, List.setIfInBounds_toArray, List.set_cons_zero, List.set_cons_succ])
                refine wpList_val (.int .i64 (k : Nat)) (by rfl) (by go_simp) ?_
                (try simp only [Act.put, List.getElem_toArray, List.getElem_cons_succ, List.getElem_cons_zero, List.setIfInBounds_toArray, List.set_cons_zero, List.set_cons_succ])
                refine wpList_val (.pointer (some ⟨ga, k * 8, none⟩)) (by rfl) (by go_simp) ?_
                (try simp only [Act.put, List.getElem_toArray, List.getElem_cons_succ, List.getElem_cons_zero, List.setIfInBounds_toArray, List.set_cons_zero, List.set_cons_succ])
                refine wpList_val (.pointer (some ⟨ga, k * 8, none⟩)) (by rfl) (by go_simp) ?_
                (try simp only [Act.put, List.getElem_toArray, List.getElem_cons_succ, List.getElem_cons_zero, List.setIfInBounds_toArray, List.set_cons_zero, List.set_cons_succ])
                refine wpList_val (.bool true) (by rfl) (by have q := RO.out _ K0.out.below; go_simp) ?_
                (try simp only [Act.put, List.getElem_toArray, List.getElem_cons_succ, List.getElem_cons_zero, List.setIfInBounds_toArray, List.set_cons_zero, List.set_cons_succ])
                refine wpList_val (.bool true) (by rfl) (by go_simp) ?_
                (try simp only [Act.put, List.getElem_toArray, List.getElem_cons_succ, List.getElem_cons_zero, List.setIfInBounds_toArray, List.set_cons_zero, List.set_cons_succ])
                refine wpList_val (.slice (some ⟨ga, 0, none⟩) n c5) (by rfl) (by go_simp) ?_
                (try simp only [Act.put, List.getElem_toArray, List.getElem_cons_succ, List.getElem_cons_zero, List.setIfInBounds_toArray, List.set_cons_zero, List.set_cons_succ])
                refine wpList_val (.int .i64 (k : Nat)) (by rfl) (by go_simp) ?_
                (try simp only [Act.put, List.getElem_toArray, List.getElem_cons_succ, List.getElem_cons_zero, List.setIfInBounds_toArray, List.set_cons_zero, List.set_cons_succ])
                refine wpList_val (.pointer (some ⟨ga, k * 8, none⟩)) (by rfl) (by go_simp) ?_
                (try simp only [Act.put, List.getElem_toArray, List.getElem_cons_succ, List.getElem_cons_zero, List.setIfInBounds_toArray, List.set_cons_zero, List.set_cons_succ])
                refine wpList_val (.pointer (some ⟨ga, k * 8 + 1, none⟩)) (by rfl) (by go_simp) ?_
                (try simp only [Act.put, List.getElem_toArray, List.getElem_cons_succ, List.getElem_cons_zero, List.setIfInBounds_toArray, List.set_cons_zero, List.set_cons_succ])
                refine wpList_val (.bool true) (by rfl) (by have q := RD.out _ K0.out.below; go_simp) ?_
                (try simp only [Act.put, List.getElem_toArray, List.getElem_cons_succ, List.getElem_cons_zero, List.setIfInBounds_toArray, List.set_cons_zero, List.set_cons_succ])
                refine wpList_val (.bool false) (by rfl) (by go_simp) ?_
                (try simp only [Act.put, List.getElem_toArray, List.getElem_cons_succ, List.getElem_cons_zero, List.setIfInBounds_toArray, List.set_cons_zero, List.set_cons_succ])
                refine wpList_val (.bool false) (by rfl) (run_pick_yes (.tmp 90) (.tmp 96) (.const (.bool false)) _ rfl rfl rfl) ?_
                (try simp only [Act.put, List.getElem_toArray, List.getElem_cons_succ, List.getElem_cons_zero, List.setIfInBounds_toArray, List.set_cons_zero, List.set_cons_succ])
                refine wpList_val (.bool false) (by rfl) (by go_simp) ?_
                (try simp only [Act.put, List.getElem_toArray, List.getElem_cons_succ, List.getElem_cons_zero, List.setIfInBounds_toArray, List.set_cons_zero, List.set_cons_succ])
                refine wpList_skip (by kernel_rfl) ?_
                (try simp only [Act.put, List.getElem_toArray, List.getElem_cons_succ, List.getElem_cons_zero, List.setIfInBounds_toArray, List.set_cons_zero, List.set_cons_succ])
                refine wpList_skip (by kernel_rfl) ?_
                (try simp only [Act.put, List.getElem_toArray, List.getElem_cons_succ, List.getElem_cons_zero, List.setIfInBounds_toArray, List.set_cons_zero, List.set_cons_succ])
                refine wpList_val (.bool false) (by rfl) (run_pick_no (.tmp 98) (.tmp 100) (.const (.bool false)) _ rfl rfl rfl) ?_
                (try simp only [Act.put, List.getElem_toArray, List.getElem_cons_succ, List.getElem_cons_zero, List.setIfInBounds_toArray, List.set_cons_zero, List.set_cons_succ])
                refine wpList_val (.bool false) (by rfl) (run_pick_no (.tmp 84) (.const (.bool true)) (.tmp 101) _ rfl rfl rfl) ?_
                (try simp only [Act.put, List.getElem_toArray, List.getElem_cons_succ, List.getElem_cons_zero, List.setIfInBounds_toArray, List.set_cons_zero, List.set_cons_succ])
                refine wpList_nil ?_
                go_upto_region 13 with fail
                refine wp_region_lit ?_
                refine wpList_val (.int .i64 2) (by rfl) (by go_simp) ?_
                (try simp only [Act.put, List.getElem_toArray, List.getElem_cons_succ, List.getElem_cons_zero, List.setIfInBounds_toArray, List.set_cons_zero, List.set_cons_succ])
                refine wpList_val (.bool false) (by rfl) (by go_simp) ?_
                (try simp only [Act.put, List.getElem_toArray, List.getElem_cons_succ, List.getElem_cons_zero, List.setIfInBounds_toArray, List.set_cons_zero, List.set_cons_succ])
                refine wpList_val (.bool false) (by rfl) (by go_simp) ?_
                (try simp only [Act.put, List.getElem_toArray, List.getElem_cons_succ, List.getElem_cons_zero, List.setIfInBounds_toArray, List.set_cons_zero, List.set_cons_succ])
                refine wpList_val (.int .i64 2) (by rfl) (by go_simp) ?_
                (try simp only [Act.put, List.getElem_toArray, List.getElem_cons_succ, List.getElem_cons_zero, List.setIfInBounds_toArray, List.set_cons_zero, List.set_cons_succ])
                refine wpList_val (.bool true) (by rfl) (by go_simp) ?_
                (try simp only [Act.put, List.getElem_toArray, List.getElem_cons_succ, List.getElem_cons_zero, List.setIfInBounds_toArray, List.set_cons_zero, List.set_cons_succ])
                refine wpList_val (.bool true) (by rfl) (run_pick_no (.tmp 105) (.const (.bool true)) (.tmp 107) _ rfl rfl rfl) ?_
                (try simp only [Act.put, List.getElem_toArray, List.getElem_cons_succ, List.getElem_cons_zero, List.setIfInBounds_toArray, List.set_cons_zero, List.set_cons_succ])
                refine wpList_nil ?_
                go_upto_region 14 with fail
                skip
                have R6 := Lib.hid (show ∀ W, Below wr.heap.size wr W → W.rangeAt ga (k * 8 + 2) (vcA x.v).toList from fun W hW j u hu => by
                  have hj : j < 4 := (List.getElem?_eq_some_iff.1 hu).1
                  have h := R5.out W hW (2 + j) u (by rw [← hu]; match j, hj with | 0, _ => rfl | 1, _ => rfl | 2, _ => rfl | 3, _ => rfl)
                  rwa [← Nat.add_assoc] at h)
                refine wp_region_inv (I := fun L ac w' => ac = OnF1 self n k g1 g2 ga c1 c2 c5 b7 P x t f1 f2 f3 u4 f6 f10 f11 f12 f13 f14 f15 f16 f17 f18 f19 f20 f21 f22 f23 f24 f25 f26 f27 f28 f29 f30 f31 f32 f33 f34 f35 f36 f37 f38 f39 f40 f41 f42 f43 f44 f45 f46 f47 f48 f49 f50 f51 f52 f53 u58 u59 u109 u110 u111 u112 u113 u114 u115 u116 u117 u118 u119 u120 L ∧ Kb wr [] w') (by kernel_rfl) (by kernel_rfl) ⟨by kernel_rfl, K0.out.drew⟩ ?_ ?_
                · intro i hi Lx ac w' hI hL haft
                  obtain ⟨rfl, hw⟩ := hI
                  match i, hi with
                  | 0, _ =>
                    have g5 : (OnF1 self n k g1 g2 ga c1 c2 c5 b7 P x t f1 f2 f3 u4 f6 f10 f11 f12 f13 f14 f15 f16 f17 f18 f19 f20 f21 f22 f23 f24 f25 f26 f27 f28 f29 f30 f31 f32 f33 f34 f35 f36 f37 f38 f39 f40 f41 f42 f43 f44 f45 f46 f47 f48 f49 f50 f51 f52 f53 u58 u59 u109 u110 u111 u112 u113 u114 u115 u116 u117 u118 u119 u120 Lx).tmps[5]?.getD undef = .slice (some ⟨ga, 0, none⟩) n c5 := by kernel_rfl
                    have e5 : (OnF1 self n k g1 g2 ga c1 c2 c5 b7 P x t f1 f2 f3 u4 f6 f10 f11 f12 f13 f14 f15 f16 f17 f18 f19 f20 f21 f22 f23 f24 f25 f26 f27 f28 f29 f30 f31 f32 f33 f34 f35 f36 f37 f38 f39 f40 f41 f42 f43 f44 f45 f46 f47 f48 f49 f50 f51 f52 f53 u58 u59 u109 u110 u111 u112 u113 u114 u115 u116 u117 u118 u119 u120 Lx).eval (.tmp 5) = .slice (some ⟨ga, 0, none⟩) n c5 := by kernel_rfl
                    exact i_val rfl (.slice (some ⟨ga, 0, none⟩) n c5) w' (by rfl) (by go_simp) ⟨by kernel_rfl, hw⟩
                  | 1, _ =>
                    have g8 : (OnF1 self n k g1 g2 ga c1 c2 c5 b7 P x t f1 f2 f3 u4 f6 f10 f11 f12 f13 f14 f15 f16 f17 f18 f19 f20 f21 f22 f23 f24 f25 f26 f27 f28 f29 f30 f31 f32 f33 f34 f35 f36 f37 f38 f39 f40 f41 f42 f43 f44 f45 f46 f47 f48 f49 f50 f51 f52 f53 u58 u59 u109 u110 u111 u112 u113 u114 u115 u116 u117 u118 u119 u120 Lx).tmps[8]?.getD undef = .int .i64 (k : Nat) := by kernel_rfl
                    have e8 : (OnF1 self n k g1 g2 ga c1 c2 c5 b7 P x t f1 f2 f3 u4 f6 f10 f11 f12 f13 f14 f15 f16 f17 f18 f19 f20 f21 f22 f23 f24 f25 f26 f27 f28 f29 f30 f31 f32 f33 f34 f35 f36 f37 f38 f39 f40 f41 f42 f43 f44 f45 f46 f47 f48 f49 f50 f51 f52 f53 u58 u59 u109 u110 u111 u112 u113 u114 u115 u116 u117 u118 u119 u120 Lx).eval (.tmp 8) = .int .i64 (k : Nat) := by kernel_rfl
                    exact i_val rfl (.int .i64 (k : Nat)) w' (by rfl) (by go_simp) ⟨by kernel_rfl, hw⟩
                  | 2, _ =>
                    have h0 := haft 0 (by decide)
                    have e109 : (OnF1 self n k g1 g2 ga c1 c2 c5 b7 P x t f1 f2 f3 u4 f6 f10 f11 f12 f13 f14 f15 f16 f17 f18 f19 f20 f21 f22 f23 f24 f25 f26 f27 f28 f29 f30 f31 f32 f33 f34 f35 f36 f37 f38 f39 f40 f41 f42 f43 f44 f45 f46 f47 f48 f49 f50 f51 f52 f53 u58 u59 u109 u110 u111 u112 u113 u114 u115 u116 u117 u118 u119 u120 Lx).eval (.tmp 109) = .slice (some ⟨ga, 0, none⟩) n c5 := by show (bif Lx 0 then _ else _) = _; rw [h0]; rfl
                    have g109 : (OnF1 self n k g1 g2 ga c1 c2 c5 b7 P x t f1 f2 f3 u4 f6 f10 f11 f12 f13 f14 f15 f16 f17 f18 f19 f20 f21 f22 f23 f24 f25 f26 f27 f28 f29 f30 f31 f32 f33 f34 f35 f36 f37 f38 f39 f40 f41 f42 f43 f44 f45 f46 f47 f48 f49 f50 f51 f52 f53 u58 u59 u109 u110 u111 u112 u113 u114 u115 u116 u117 u118 u119 u120 Lx).tmps[109]?.getD undef = .slice (some ⟨ga, 0, none⟩) n c5 := by show (bif Lx 0 then _ else _) = _; rw [h0]; rfl
                    have h1 := haft 1 (by decide)
                    have e110 : (OnF1 self n k g1 g2 ga c1 c2 c5 b7 P x t f1 f2 f3 u4 f6 f10 f11 f12 f13 f14 f15 f16 f17 f18 f19 f20 f21 f22 f23 f24 f25 f26 f27 f28 f29 f30 f31 f32 f33 f34 f35 f36 f37 f38 f39 f40 f41 f42 f43 f44 f45 f46 f47 f48 f49 f50 f51 f52 f53 u58 u59 u109 u110 u111 u112 u113 u114 u115 u116 u117 u118 u119 u120 Lx).eval (.tmp 110) = .int .i64 (k : Nat) := by show (bif Lx 1 then _ else _) = _; rw [h1]; rfl
                    have g110 : (OnF1 self n k g1 g2 ga c1 c2 c5 b7 P x t f1 f2 f3 u4 f6 f10 f11 f12 f13 f14 f15 f16 f17 f18 f19 f20 f21 f22 f23 f24 f25 f26 f27 f28 f29 f30 f31 f32 f33 f34 f35 f36 f37 f38 f39 f40 f41 f42 f43 f44 f45 f46 f47 f48 f49 f50 f51 f52 f53 u58 u59 u109 u110 u111 u112 u113 u114 u115 u116 u117 u118 u119 u120 Lx).tmps[110]?.getD undef = .int .i64 (k : Nat) := by show (bif Lx 1 then _ else _) = _; rw [h1]; rfl
                    exact i_val rfl (.pointer (some ⟨ga, k * 8, none⟩)) w' (by rfl) (by go_simp) ⟨by kernel_rfl, hw⟩
                  | 3, _ =>
                    have h2 := haft 2 (by decide)
                    have e111 : (OnF1 self n k g1 g2 ga c1 c2 c5 b7 P x t f1 f2 f3 u4 f6 f10 f11 f12 f13 f14 f15 f16 f17 f18 f19 f20 f21 f22 f23 f24 f25 f26 f27 f28 f29 f30 f31 f32 f33 f34 f35 f36 f37 f38 f39 f40 f41 f42 f43 f44 f45 f46 f47 f48 f49 f50 f51 f52 f53 u58 u59 u109 u110 u111 u112 u113 u114 u115 u116 u117 u118 u119 u120 Lx).eval (.tmp 111) = .pointer (some ⟨ga, k * 8, none⟩) := by show (bif Lx 2 then _ else _) = _; rw [h2]; rfl
                    have g111 : (OnF1 self n k g1 g2 ga c1 c2 c5 b7 P x t f1 f2 f3 u4 f6 f10 f11 f12 f13 f14 f15 f16 f17 f18 f19 f20 f21 f22 f23 f24 f25 f26 f27 f28 f29 f30 f31 f32 f33 f34 f35 f36 f37 f38 f39 f40 f41 f42 f43 f44 f45 f46 f47 f48 f49 f50 f51 f52 f53 u58 u59 u109 u110 u111 u112 u113 u114 u115 u116 u117 u118 u119 u120 Lx).tmps[111]?.getD undef = .pointer (some ⟨ga, k * 8, none⟩) := by show (bif Lx 2 then _ else _) = _; rw [h2]; rfl
                    exact i_val rfl (.pointer (some ⟨ga, k * 8 + 2, none⟩)) w' (by rfl) (by go_simp) ⟨by kernel_rfl, hw⟩
                  | 4, _ =>
                    have h3 := haft 3 (by decide)
                    have e112 : (OnF1 self n k g1 g2 ga c1 c2 c5 b7 P x t f1 f2 f3 u4 f6 f10 f11 f12 f13 f14 f15 f16 f17 f18 f19 f20 f21 f22 f23 f24 f25 f26 f27 f28 f29 f30 f31 f32 f33 f34 f35 f36 f37 f38 f39 f40 f41 f42 f43 f44 f45 f46 f47 f48 f49 f50 f51 f52 f53 u58 u59 u109 u110 u111 u112 u113 u114 u115 u116 u117 u118 u119 u120 Lx).eval (.tmp 112) = .pointer (some ⟨ga, k * 8 + 2, none⟩) := by show (bif Lx 3 then _ else _) = _; rw [h3]; rfl
                    have g112 : (OnF1 self n k g1 g2 ga c1 c2 c5 b7 P x t f1 f2 f3 u4 f6 f10 f11 f12 f13 f14 f15 f16 f17 f18 f19 f20 f21 f22 f23 f24 f25 f26 f27 f28 f29 f30 f31 f32 f33 f34 f35 f36 f37 f38 f39 f40 f41 f42 f43 f44 f45 f46 f47 f48 f49 f50 f51 f52 f53 u58 u59 u109 u110 u111 u112 u113 u114 u115 u116 u117 u118 u119 u120 Lx).tmps[112]?.getD undef = .pointer (some ⟨ga, k * 8 + 2, none⟩) := by show (bif Lx 3 then _ else _) = _; rw [h3]; rfl
                    exact i_val rfl (.agg (vcA x.v)) w' (by rfl) (run_loadRange 44 _ rfl ga (k * 8 + 2) e112 (vcA x.v) _ (R6.out _ hw.below) Try.underlying44 rfl sizeV) ⟨by kernel_rfl, hw⟩
                  | 5, _ =>
                    have g7 : (OnF1 self n k g1 g2 ga c1 c2 c5 b7 P x t f1 f2 f3 u4 f6 f10 f11 f12 f13 f14 f15 f16 f17 f18 f19 f20 f21 f22 f23 f24 f25 f26 f27 f28 f29 f30 f31 f32 f33 f34 f35 f36 f37 f38 f39 f40 f41 f42 f43 f44 f45 f46 f47 f48 f49 f50 f51 f52 f53 u58 u59 u109 u110 u111 u112 u113 u114 u115 u116 u117 u118 u119 u120 Lx).tmps[7]?.getD undef = .pointer (some ⟨b7, 0, none⟩) := by kernel_rfl
                    have e7 : (OnF1 self n k g1 g2 ga c1 c2 c5 b7 P x t f1 f2 f3 u4 f6 f10 f11 f12 f13 f14 f15 f16 f17 f18 f19 f20 f21 f22 f23 f24 f25 f26 f27 f28 f29 f30 f31 f32 f33 f34 f35 f36 f37 f38 f39 f40 f41 f42 f43 f44 f45 f46 f47 f48 f49 f50 f51 f52 f53 u58 u59 u109 u110 u111 u112 u113 u114 u115 u116 u117 u118 u119 u120 Lx).eval (.tmp 7) = .pointer (some ⟨b7, 0, none⟩) := by kernel_rfl
                    exact i_val rfl (.pointer (some ⟨b7, 4, none⟩)) w' (by rfl) (by go_simp) ⟨by kernel_rfl, hw⟩
                  | 6, _ =>
                    have h5 := haft 5 (by decide)
                    have e114 : (OnF1 self n k g1 g2 ga c1 c2 c5 b7 P x t f1 f2 f3 u4 f6 f10 f11 f12 f13 f14 f15 f16 f17 f18 f19 f20 f21 f22 f23 f24 f25 f26 f27 f28 f29 f30 f31 f32 f33 f34 f35 f36 f37 f38 f39 f40 f41 f42 f43 f44 f45 f46 f47 f48 f49 f50 f51 f52 f53 u58 u59 u109 u110 u111 u112 u113 u114 u115 u116 u117 u118 u119 u120 Lx).eval (.tmp 114) = .pointer (some ⟨b7, 4, none⟩) := by show (bif Lx 5 then _ else _) = _; rw [h5]; rfl
                    have g114 : (OnF1 self n k g1 g2 ga c1 c2 c5 b7 P x t f1 f2 f3 u4 f6 f10 f11 f12 f13 f14 f15 f16 f17 f18 f19 f20 f21 f22 f23 f24 f25 f26 f27 f28 f29 f30 f31 f32 f33 f34 f35 f36 f37 f38 f39 f40 f41 f42 f43 f44 f45 f46 f47 f48 f49 f50 f51 f52 f53 u58 u59 u109 u110 u111 u112 u113 u114 u115 u116 u117 u118 u119 u120 Lx).tmps[114]?.getD undef = .pointer (some ⟨b7, 4, none⟩) := by show (bif Lx 5 then _ else _) = _; rw [h5]; rfl
                    exact i_val rfl (.slice (some ⟨g2, 0, none⟩) n c2) w' (by rfl) (by have q : w'.cell? ⟨b7, 4, none⟩ = some (.slice (some ⟨g2, 0, none⟩) n c2) := (C7.out _ hw.below).cell 4; go_simp) ⟨by kernel_rfl, hw⟩
                  | 7, _ =>
                    have g8 : (OnF1 self n k g1 g2 ga c1 c2 c5 b7 P x t f1 f2 f3 u4 f6 f10 f11 f12 f13 f14 f15 f16 f17 f18 f19 f20 f21 f22 f23 f24 f25 f26 f27 f28 f29 f30 f31 f32 f33 f34 f35 f36 f37 f38 f39 f40 f41 f42 f43 f44 f45 f46 f47 f48 f49 f50 f51 f52 f53 u58 u59 u109 u110 u111 u112 u113 u114 u115 u116 u117 u118 u119 u120 Lx).tmps[8]?.getD undef = .int .i64 (k : Nat) := by kernel_rfl
                    have e8 : (OnF1 self n k g1 g2 ga c1 c2 c5 b7 P x t f1 f2 f3 u4 f6 f10 f11 f12 f13 f14 f15 f16 f17 f18 f19 f20 f21 f22 f23 f24 f25 f26 f27 f28 f29 f30 f31 f32 f33 f34 f35 f36 f37 f38 f39 f40 f41 f42 f43 f44 f45 f46 f47 f48 f49 f50 f51 f52 f53 u58 u59 u109 u110 u111 u112 u113 u114 u115 u116 u117 u118 u119 u120 Lx).eval (.tmp 8) = .int .i64 (k : Nat) := by kernel_rfl
                    exact i_val rfl (.int .i64 (k : Nat)) w' (by rfl) (by go_simp) ⟨by kernel_rfl, hw⟩
                  | 8, _ =>
                    have h6 := haft 6 (by decide)
                    have e115 : (OnF1 self n k g1 g2 ga c1 c2 c5 b7 P x t f1 f2 f3 u4 f6 f10 f11 f12 f13 f14 f15 f16 f17 f18 f19 f20 f21 f22 f23 f24 f25 f26 f27 f28 f29 f30 f31 f32 f33 f34 f35 f36 f37 f38 f39 f40 f41 f42 f43 f44 f45 f46 f47 f48 f49 f50 f51 f52 f53 u58 u59 u109 u110 u111 u112 u113 u114 u115 u116 u117 u118 u119 u120 Lx).eval (.tmp 115) = .slice (some ⟨g2, 0, none⟩) n c2 := by show (bif Lx 6 then _ else _) = _; rw [h6]; rfl
                    have g115 : (OnF1 self n k g1 g2 ga c1 c2 c5 b7 P x t f1 f2 f3 u4 f6 f10 f11 f12 f13 f14 f15 f16 f17 f18 f19 f20 f21 f22 f23 f24 f25 f26 f27 f28 f29 f30 f31 f32 f33 f34 f35 f36 f37 f38 f39 f40 f41 f42 f43 f44 f45 f46 f47 f48 f49 f50 f51 f52 f53 u58 u59 u109 u110 u111 u112 u113 u114 u115 u116 u117 u118 u119 u120 Lx).tmps[115]?.getD undef = .slice (some ⟨g2, 0, none⟩) n c2 := by show (bif Lx 6 then _ else _) = _; rw [h6]; rfl
                    have h7 := haft 7 (by decide)
                    have e116 : (OnF1 self n k g1 g2 ga c1 c2 c5 b7 P x t f1 f2 f3 u4 f6 f10 f11 f12 f13 f14 f15 f16 f17 f18 f19 f20 f21 f22 f23 f24 f25 f26 f27 f28 f29 f30 f31 f32 f33 f34 f35 f36 f37 f38 f39 f40 f41 f42 f43 f44 f45 f46 f47 f48 f49 f50 f51 f52 f53 u58 u59 u109 u110 u111 u112 u113 u114 u115 u116 u117 u118 u119 u120 Lx).eval (.tmp 116) = .int .i64 (k : Nat) := by show (bif Lx 7 then _ else _) = _; rw [h7]; rfl
                    have g116 : (OnF1 self n k g1 g2 ga c1 c2 c5 b7 P x t f1 f2 f3 u4 f6 f10 f11 f12 f13 f14 f15 f16 f17 f18 f19 f20 f21 f22 f23 f24 f25 f26 f27 f28 f29 f30 f31 f32 f33 f34 f35 f36 f37 f38 f39 f40 f41 f42 f43 f44 f45 f46 f47 f48 f49 f50 f51 f52 f53 u58 u59 u109 u110 u111 u112 u113 u114 u115 u116 u117 u118 u119 u120 Lx).tmps[116]?.getD undef = .int .i64 (k : Nat) := by show (bif Lx 7 then _ else _) = _; rw [h7]; rfl
                    exact i_val rfl (.pointer (some ⟨g2, k * 4, none⟩)) w' (by rfl) (by go_simp) ⟨by kernel_rfl, hw⟩
                  | 9, _ =>
                    have h8 := haft 8 (by decide)
                    have e117 : (OnF1 self n k g1 g2 ga c1 c2 c5 b7 P x t f1 f2 f3 u4 f6 f10 f11 f12 f13 f14 f15 f16 f17 f18 f19 f20 f21 f22 f23 f24 f25 f26 f27 f28 f29 f30 f31 f32 f33 f34 f35 f36 f37 f38 f39 f40 f41 f42 f43 f44 f45 f46 f47 f48 f49 f50 f51 f52 f53 u58 u59 u109 u110 u111 u112 u113 u114 u115 u116 u117 u118 u119 u120 Lx).eval (.tmp 117) = .pointer (some ⟨g2, k * 4, none⟩) := by show (bif Lx 8 then _ else _) = _; rw [h8]; rfl
                    have g117 : (OnF1 self n k g1 g2 ga c1 c2 c5 b7 P x t f1 f2 f3 u4 f6 f10 f11 f12 f13 f14 f15 f16 f17 f18 f19 f20 f21 f22 f23 f24 f25 f26 f27 f28 f29 f30 f31 f32 f33 f34 f35 f36 f37 f38 f39 f40 f41 f42 f43 f44 f45 f46 f47 f48 f49 f50 f51 f52 f53 u58 u59 u109 u110 u111 u112 u113 u114 u115 u116 u117 u118 u119 u120 Lx).tmps[117]?.getD undef = .pointer (some ⟨g2, k * 4, none⟩) := by show (bif Lx 8 then _ else _) = _; rw [h8]; rfl
                    exact i_val rfl (.agg (vcA t)) w' (by rfl) (run_loadRange 44 _ rfl g2 (k * 4) e117 (vcA t) _ (R2.out _ hw.below) Try.underlying44 rfl sizeV) ⟨by kernel_rfl, hw⟩
                  | 10, _ =>
                    have h4 := haft 4 (by decide)
                    have e113 : (OnF1 self n k g1 g2 ga c1 c2 c5 b7 P x t f1 f2 f3 u4 f6 f10 f11 f12 f13 f14 f15 f16 f17 f18 f19 f20 f21 f22 f23 f24 f25 f26 f27 f28 f29 f30 f31 f32 f33 f34 f35 f36 f37 f38 f39 f40 f41 f42 f43 f44 f45 f46 f47 f48 f49 f50 f51 f52 f53 u58 u59 u109 u110 u111 u112 u113 u114 u115 u116 u117 u118 u119 u120 Lx).eval (.tmp 113) = .agg (vcA x.v) := by show (bif Lx 4 then _ else _) = _; rw [h4]; rfl
                    have g113 : (OnF1 self n k g1 g2 ga c1 c2 c5 b7 P x t f1 f2 f3 u4 f6 f10 f11 f12 f13 f14 f15 f16 f17 f18 f19 f20 f21 f22 f23 f24 f25 f26 f27 f28 f29 f30 f31 f32 f33 f34 f35 f36 f37 f38 f39 f40 f41 f42 f43 f44 f45 f46 f47 f48 f49 f50 f51 f52 f53 u58 u59 u109 u110 u111 u112 u113 u114 u115 u116 u117 u118 u119 u120 Lx).tmps[113]?.getD undef = .agg (vcA x.v) := by show (bif Lx 4 then _ else _) = _; rw [h4]; rfl
                    have h9 := haft 9 (by decide)
                    have e118 : (OnF1 self n k g1 g2 ga c1 c2 c5 b7 P x t f1 f2 f3 u4 f6 f10 f11 f12 f13 f14 f15 f16 f17 f18 f19 f20 f21 f22 f23 f24 f25 f26 f27 f28 f29 f30 f31 f32 f33 f34 f35 f36 f37 f38 f39 f40 f41 f42 f43 f44 f45 f46 f47 f48 f49 f50 f51 f52 f53 u58 u59 u109 u110 u111 u112 u113 u114 u115 u116 u117 u118 u119 u120 Lx).eval (.tmp 118) = .agg (vcA t) := by show (bif Lx 9 then _ else _) = _; rw [h9]; rfl
                    have g118 : (OnF1 self n k g1 g2 ga c1 c2 c5 b7 P x t f1 f2 f3 u4 f6 f10 f11 f12 f13 f14 f15 f16 f17 f18 f19 f20 f21 f22 f23 f24 f25 f26 f27 f28 f29 f30 f31 f32 f33 f34 f35 f36 f37 f38 f39 f40 f41 f42 f43 f44 f45 f46 f47 f48 f49 f50 f51 f52 f53 u58 u59 u109 u110 u111 u112 u113 u114 u115 u116 u117 u118 u119 u120 Lx).tmps[118]?.getD undef = .agg (vcA t) := by show (bif Lx 9 then _ else _) = _; rw [h9]; rfl
                    exact i_call rfl (.bool true) 13 #[.agg (vcA x.v), .agg (vcA t)] (fun w2 => Below w'.heap.size w' w2) (by rfl) (by go_simp) (by have q := better_any x.v t w'; rw [hls] at q; exact q) (fun w2 hb => ⟨by kernel_rfl, hw.next hb⟩)
                  | 11, _ =>
                    have h10 := haft 10 (by decide)
                    have e119 : (OnF1 self n k g1 g2 ga c1 c2 c5 b7 P x t f1 f2 f3 u4 f6 f10 f11 f12 f13 f14 f15 f16 f17 f18 f19 f20 f21 f22 f23 f24 f25 f26 f27 f28 f29 f30 f31 f32 f33 f34 f35 f36 f37 f38 f39 f40 f41 f42 f43 f44 f45 f46 f47 f48 f49 f50 f51 f52 f53 u58 u59 u109 u110 u111 u112 u113 u114 u115 u116 u117 u118 u119 u120 Lx).eval (.tmp 119) = .bool true := by show (bif Lx 10 then _ else _) = _; rw [h10]; rfl
                    have g119 : (OnF1 self n k g1 g2 ga c1 c2 c5 b7 P x t f1 f2 f3 u4 f6 f10 f11 f12 f13 f14 f15 f16 f17 f18 f19 f20 f21 f22 f23 f24 f25 f26 f27 f28 f29 f30 f31 f32 f33 f34 f35 f36 f37 f38 f39 f40 f41 f42 f43 f44 f45 f46 f47 f48 f49 f50 f51 f52 f53 u58 u59 u109 u110 u111 u112 u113 u114 u115 u116 u117 u118 u119 u120 Lx).tmps[119]?.getD undef = .bool true := by show (bif Lx 10 then _ else _) = _; rw [h10]; rfl
                    exact i_val rfl (.bool false) w' (by rfl) (by go_simp) ⟨by kernel_rfl, hw⟩
                  | k + 12, h =>
                    exfalso
                    have h2 : k + 12 < 12 := h
                    omega
                intro Lx ac w1 hI hall
                obtain ⟨rfl, hw⟩ := hI
                have hfr : OnF1 self n k g1 g2 ga c1 c2 c5 b7 P x t f1 f2 f3 u4 f6 f10 f11 f12 f13 f14 f15 f16 f17 f18 f19 f20 f21 f22 f23 f24 f25 f26 f27 f28 f29 f30 f31 f32 f33 f34 f35 f36 f37 f38 f39 f40 f41 f42 f43 f44 f45 f46 f47 f48 f49 f50 f51 f52 f53 u58 u59 u109 u110 u111 u112 u113 u114 u115 u116 u117 u118 u119 u120 Lx = { tmps := #[.int .u64 (self : Nat), f1, f2, f3, u4, .slice (some ⟨ga, 0, none⟩) n c5, f6, .pointer (some ⟨b7, 0, none⟩), .int .i64 (k : Nat), .int .i64 2, f10, f11, f12, f13, f14, f15, f16, f17, f18, f19, f20, f21, f22, f23, f24, f25, f26, f27, f28, f29, f30, f31, f32, f33, f34, f35, f36, f37, f38, f39, f40, f41, f42, f43, f44, f45, f46, f47, f48, f49, f50, f51, f52, f53, .int .i64 (k : Nat), .slice (some ⟨ga, 0, none⟩) n c5, .int .i64 (n : Nat), .bool true, u58, u59, .pointer (some ⟨b7, 3, none⟩), .slice (some ⟨g1, 0, none⟩) n c1, .int .i64 (k : Nat), .pointer (some ⟨g1, k, none⟩), .int .i64 2, .int .i64 2, .bool false, .pointer (some ⟨b7, 2, none⟩), .int .i64 P, .int .i64 (k : Nat), .int .i64 ((k : Int) + 1), .bool false, .bool false, .bool false, .int .i64 2, .bool false, .slice (some ⟨ga, 0, none⟩) n c5, .int .i64 (k : Nat), .pointer (some ⟨ga, k * 8, none⟩), .pointer (some ⟨ga, k * 8, none⟩), .bool true, .bool false, .bool false, .bool false, .bool false, .slice (some ⟨ga, 0, none⟩) n c5, .int .i64 (k : Nat), .pointer (some ⟨ga, k * 8, none⟩), .pointer (some ⟨ga, k * 8, none⟩), .bool true, .bool true, .slice (some ⟨ga, 0, none⟩) n c5, .int .i64 (k : Nat), .pointer (some ⟨ga, k * 8, none⟩), .pointer (some ⟨ga, k * 8 + 1, none⟩), .bool true, .bool false, .bool false, .bool false, undef, undef, .bool false, .bool false, .int .i64 2, .bool false, .bool false, .int .i64 2, .bool true, .bool true, .slice (some ⟨ga, 0, none⟩) n c5, .int .i64 (k : Nat), .pointer (some ⟨ga, k * 8, none⟩), .pointer (some ⟨ga, k * 8 + 2, none⟩), .agg (vcA x.v), .pointer (some ⟨b7, 4, none⟩), .slice (some ⟨g2, 0, none⟩) n c2, .int .i64 (k : Nat), .pointer (some ⟨g2, k * 4, none⟩), .agg (vcA t), .bool true, .bool false], defers := [] } := by unfold OnF1; simp only [hall 0 (by decide), hall 1 (by decide), hall 2 (by decide), hall 3 (by decide), hall 4 (by decide), hall 5 (by decide), hall 6 (by decide), hall 7 (by decide), hall 8 (by decide), hall 9 (by decide), hall 10 (by decide), hall 11 (by decide), cond_true]
                rw [hfr]
                clear hfr
                have K1 := Lib.hid (show Kb wr [] w1 from hw)
                clear hw hall
                have hk16 : (k : Int) < 16 := by omega
                go_wp2_with fail
                go_roundw
                case rel => exact ⟨k + 1, by omega, by go_num, BR.out.trans (K1.out.below.mono BR.out.size)⟩
                case measure => simp [intOf]; omega
              case neg =>
                have hrv : r = 1 := by rw [hrr, hls]; simp [hbs]
                clear hrr
                have R1x := Lib.hid (show ∀ W, Below wr.heap.size wr W → W.cell? ⟨g1, k, none⟩ = some (.int .i64 1) from fun W hW => by rw [R1.out W hW, hrv])
                clear hrv
                go_upto_region 8 with fail
                refine wp_region_lit ?_
                refine wpList_val (.int .i64 (k : Nat)) (by rfl) (by go_simp) ?_
                (try simp only [Act.put, List.getElem_toArray, List.getElem_cons_succ, List.getElem_cons_zero, List.setIfInBounds_toArray, List.set_cons_zero, List.set_cons_succ])
                refine wpList_val (.slice (some ⟨ga, 0, none⟩) n c5) (by rfl) (by go_simp) ?_
                (try simp only [Act.put, List.getElem_toArray, List.getElem_cons_succ, List.getElem_cons_zero, List.setIfInBounds_toArray, List.set_cons_zero, List.set_cons_succ])
                refine wpList_val (.int .i64 (n : Nat)) (by rfl) (by go_simp) ?_
                (try simp only [Act.put, List.getElem_toArray, List.getElem_cons_succ, List.getElem_cons_zero, List.setIfInBounds_toArray, List.set_cons_zero, List.set_cons_succ])
                refine wpList_val (.bool true) (by rfl) (by have q := hlt; go_simp) ?_
                (try simp only [Act.put, List.getElem_toArray, List.getElem_cons_succ, List.getElem_cons_zero, List.setIfInBounds_toArray, List.set_cons_zero, List.set_cons_succ])
                refine wpList_nil ?_
                go_upto_region 10 with fail
                refine wp_region_lit ?_
                refine wpList_val (.pointer (some ⟨b7, 3, none⟩)) (by rfl) (by go_simp) ?_
                (try simp only [Act.put, List.getElem_toArray, List.getElem_cons_succ, List.getElem_cons_zero, List.setIfInBounds_toArray, List.set_cons_zero, List.set_cons_succ])
                refine wpList_val (.slice (some ⟨g1, 0, none⟩) n c1) (by rfl) (by have q : wr.cell? ⟨b7, 3, none⟩ = some (.slice (some ⟨g1, 0, none⟩) n c1) := (C7.out _ K0.out.below).cell 3; go_simp) ?_
                (try simp only [Act.put, List.getElem_toArray, List.getElem_cons_succ, List.getElem_cons_zero, List.setIfInBounds_toArray, List.set_cons_zero, List.set_cons_succ])
                refine wpList_val (.int .i64 (k : Nat)) (by rfl) (by go_simp) ?_
                (try simp only [Act.put, List.getElem_toArray, List.getElem_cons_succ, List.getElem_cons_zero, List.setIfInBounds_toArray, List.set_cons_zero, List.set_cons_succ])
                refine wpList_val (.pointer (some ⟨g1, k, none⟩)) (by rfl) (by go_simp) ?_
                (try simp only [Act.put, List.getElem_toArray, List.getElem_cons_succ, List.getElem_cons_zero, List.setIfInBounds_toArray, List.set_cons_zero, List.set_cons_succ])
                refine wpList_val (.int .i64 1) (by rfl) (by have q := R1x.out _ K0.out.below; go_simp) ?_
                (try simp only [Act.put, List.getElem_toArray, List.getElem_cons_succ, List.getElem_cons_zero, List.setIfInBounds_toArray, List.set_cons_zero, List.set_cons_succ])
                refine wpList_val (.int .i64 1) (by rfl) (by go_simp) ?_
                (try simp only [Act.put, List.getElem_toArray, List.getElem_cons_succ, List.getElem_cons_zero, List.setIfInBounds_toArray, List.set_cons_zero, List.set_cons_succ])
                refine wpList_nil ?_
                go_upto_region 11 with fail
                refine wp_region_lit ?_
                refine wpList_val (.int .i64 1) (by rfl) (by go_simp) ?_
                (try simp only [Act.put, List.getElem_toArray, List.getElem_cons_succ, List.getElem_cons_zero, List.setIfInBounds_toArray, List.set_cons_zero, List.set_cons_succ])
                refine wpList_val (.bool false) (by rfl) (by go_simp) ?_
                (try simp only [Act.put, List.getElem_toArray, List.getElem_cons_succ, List.getElem_cons_zero, List.setIfInBounds_toArray, List.set_cons_zero, List.set_cons_succ])
                refine wpList_val (.pointer (some ⟨b7, 2, none⟩)) (by rfl) (by go_simp) ?_
                (try simp only [Act.put, List.getElem_toArray, List.getElem_cons_succ, List.getElem_cons_zero, List.setIfInBounds_toArray, List.set_cons_zero, List.set_cons_succ])
                refine wpList_val (.int .i64 P) (by rfl) (by have q : wr.cell? ⟨b7, 2, none⟩ = some (.int .i64 P) := (C7.out _ K0.out.below).cell 2; go_simp) ?_
                (try simp only [Act.put, List.getElem_toArray, List.getElem_cons_succ, List.getElem_cons_zero, List.setIfInBounds_toArray, List.set_cons_zero, List.set_cons_succ])
                refine wpList_val (.int .i64 (k : Nat)) (by rfl) (by go_simp) ?_
                (try simp only [Act.put, List.getElem_toArray, List.getElem_cons_succ, List.getElem_cons_zero, List.setIfInBounds_toArray, List.set_cons_zero, List.set_cons_succ])
                refine wpList_val (.int .i64 ((k : Int) + 1)) (by rfl) (by go_simp; exact wrap_i64r (by omega) (by omega)) ?_
                (try simp only [Act.put, List.getElem_toArray, List.getElem_cons_succ, List.getElem_cons_zero, List.setIfInBounds_toArray, List.set_cons_zero, List.set_cons_succ])
                refine wpList_val (.bool false) (by rfl) (by have q := HPK.out; go_simp) ?_
                (try simp only [Act.put, List.getElem_toArray, List.getElem_cons_succ, List.getElem_cons_zero, List.setIfInBounds_toArray, List.set_cons_zero, List.set_cons_succ])
                refine wpList_val (.bool false) (by rfl) (by go_simp) ?_
                (try simp only [Act.put, List.getElem_toArray, List.getElem_cons_succ, List.getElem_cons_zero, List.setIfInBounds_toArray, List.set_cons_zero, List.set_cons_succ])
                refine wpList_val (.bool false) (by rfl) (by go_simp) ?_
                (try simp only [Act.put, List.getElem_toArray, List.getElem_cons_succ, List.getElem_cons_zero, List.setIfInBounds_toArray, List.set_cons_zero, List.set_cons_succ])
                refine wpList_val (.int .i64 1) (by rfl) (by go_simp) ?_
                (try simp only [Act.put, List.getElem_toArray, List.getElem_cons_succ, List.getElem_cons_zero, List.setIfInBounds_toArray, List.set_cons_zero, List.set_cons_succ])
                refine wpList_val (.bool false) (by rfl) (by go_simp) ?_
                (try simp only [Act.put, List.getElem_toArray, List.getElem_cons_succ, List.getElem_cons_zero, List.setIfInBounds_toArray, List.set_cons_zero, List.set_cons_succ])
                refine wpList_val (.slice (some ⟨ga, 0, none⟩) n c5) (by rfl) (by go_simp) ?_
                (try simp only [Act.put, List.getElem_toArray, List.getElem_cons_succ, List.getElem_cons_zero, List.setIfInBounds_toArray, List.set_cons_zero, List.set_cons_succ])
                refine wpList_val (.int .i64 (k : Nat)) (by rfl) (by go_simp) ?_
                (try simp only [Act.put, List.getElem_toArray, List.getElem_cons_succ, List.getElem_cons_zero, List.setIfInBounds_toArray, List.set_cons_zero, List.set_cons_succ])
                refine wpList_val (.pointer (some ⟨ga, k * 8, none⟩)) (by rfl) (by go_simp) ?_
                (try simp only [Act.put, List.getElem_toArray, List.getElem_cons_succ, List.getElem_cons_zero, List.setIfInBounds_toArray, List.set_cons_zero, List.set_cons_succ])
                refine wpList_val (.pointer (some ⟨ga, k * 8, none⟩)) (by rfl) (by go_simp) ?_
                (try simp only [Act.put, List.getElem_toArray, List.getElem_cons_succ, List.getElem_cons_zero, List.setIfInBounds_toArray, List.set_cons_zero, List.set_cons_succ])
                refine wpList_val (.bool true) (by rfl) (by have q := RO.out _ K0.out.below; go_simp) ?_
                (try simp only [Act.put, List.getElem_toArray, List.getElem_cons_succ, List.getElem_cons_zero, List.setIfInBounds_toArray, List.set_cons_zero, List.set_cons_succ])
                refine wpList_val (.bool false) (by rfl) (by go_simp) ?_
                (try simp only [Act.put, List.getElem_toArray, List.getElem_cons_succ, List.getElem_cons_zero, List.setIfInBounds_toArray, List.set_cons_zero, List.set_cons_succ])
                refine wpList_val (.bool false) (by rfl) (by go_simp) ?_
                (try simp only [Act.put, List.getElem_toArray, List.getElem_cons_succ, List.getElem_cons_zero, List.setIfInBounds_toArray, List.set_cons_zero, List.set_cons_succ])
                refine wpList_val (.bool false) (by rfl) (run_pick_no (.tmp 73) (.const (.bool true)) (.tmp 82) _ rfl rfl rfl) ?_
                (try simp only [Act.put, List.getElem_toArray, List.getElem_cons_succ, List.getElem_cons_zero, List.setIfInBounds_toArray, List.set_cons_zero, List.set_cons_succ])
                refine wpList_val (.bool false) (by rfl) (by go_simp) ?_
                (try simp only [Act.put, List.getElem_toArray, List.getElem_cons_succ, List.getElem_cons_zero, List.setIfInBounds_toArray, List.set_cons_zero, List.set_cons_succ])
                refine wpList_val (.slice (some ⟨ga, 0, none⟩) n c5) (by rfl) (by go_simp) ?_
                (try simp only [Act.put, List.getElem_toArray, List.getElem_cons_succ, List.getElem_cons_zero, List.setIfInBounds_toArray, List.set_cons_zero, List.set_cons_succ])
                refine wpList_val (.int .i64 (k : Nat)) (by rfl) (by go_simp) ?_
                (try simp only [Act.put, List.getElem_toArray, List.getElem_cons_succ, List.getElem_cons_zero, List.setIfInBounds_toArray, List.set_cons_zero, List.set_cons_succ])
                refine wpList_val (.pointer (some ⟨ga, k * 8, none⟩)) (by rfl) (by go_simp) ?_
                (try simp only [Act.put, List.getElem_toArray, List.getElem_cons_succ, List.getElem_cons_zero, List.setIfInBounds_toArray, List.set_cons_zero, List.set_cons_succ])
                refine wpList_val (.pointer (some ⟨ga, k * 8, none⟩)) (by rfl) (by go_simp) ?_
                (try simp only [Act.put, List.getElem_toArray, List.getElem_cons_succ, List.getElem_cons_zero, List.setIfInBounds_toArray, List.set_cons_zero, List.set_cons_succ])
                refine wpList_val (.bool true) (by rfl) (by have q := RO.out _ K0.out.below; go_simp) ?_
                (try simp only [Act.put, List.getElem_toArray, List.getElem_cons_succ, List.getElem_cons_zero, List.setIfInBounds_toArray, List.set_cons_zero, List.set_cons_succ])
                refine wpList_val (.bool true) (by rfl) (by go_simp) ?_
                (try simp only [Act.put, List.getElem_toArray, List.getElem_cons_succ, List.getElem_cons_zero, List.setIfInBounds_toArray, List.set_cons_zero, List.set_cons_succ])
                refine wpList_val (.slice (some ⟨ga, 0, none⟩) n c5) (by rfl) (by go_simp) ?_
                (try simp only [Act.put, List.getElem_toArray, List.getElem_cons_succ, List.getElem_cons_zero, List.setIfInBounds_toArray, List.set_cons_zero, List.set_cons_succ])
                refine wpList_val (.int .i64 (k : Nat)) (by rfl) (by go_simp) ?_
                (try simp only [Act.put, List.getElem_toArray, List.getElem_cons_succ, List.getElem_cons_zero, List.setIfInBounds_toArray, List.set_cons_zero, List.set_cons_succ])
                refine wpList_val (.pointer (some ⟨ga, k * 8, none⟩)) (by rfl) (by go_simp) ?_
                (try simp only [Act.put, List.getElem_toArray, List.getElem_cons_succ, List.getElem_cons_zero, List.setIfInBounds_toArray, List.set_cons_zero, List.set_cons_succ])
                refine wpList_val (.pointer (some ⟨ga, k * 8 + 1, none⟩)) (by rfl) (by go_simp) ?_
                (try simp only [Act.put, List.getElem_toArray, List.getElem_cons_succ, List.getElem_cons_zero, List.setIfInBounds_toArray, List.set_cons_zero, List.set_cons_succ])
                refine wpList_val (.bool true) (by rfl) (by have q := RD.out _ K0.out.below; go_simp) ?_
                (try simp only [Act.put, List.getElem_toArray, List.getElem_cons_succ, List.getElem_cons_zero, List.setIfInBounds_toArray, List.set_cons_zero, List.set_cons_succ])
                refine wpList_val (.bool false) (by rfl) (by go_simp) ?_
                (try simp only [Act.put, List.getElem_toArray, List.getElem_cons_succ, List.getElem_cons_zero, List.setIfInBounds_toArray, List.set_cons_zero, List.set_cons_succ])
                refine wpList_val (.bool false) (by rfl) (run_pick_yes (.tmp 90) (.tmp 96) (.const (.bool false)) _ rfl rfl rfl) ?_
                (try simp only [Act.put, List.getElem_toArray, List.getElem_cons_succ, List.getElem_cons_zero, List.setIfInBounds_toArray, List.set_cons_zero, List.set_cons_succ])
                refine wpList_val (.bool false) (by rfl) (by go_simp) ?_
                (try simp only [Act.put, List.getElem_toArray, List.getElem_cons_succ, List.getElem_cons_zero, List.setIfInBounds_toArray, List.set_cons_zero, List.set_cons_succ])
                refine wpList_skip (by kernel_rfl) ?_
                (try simp only [Act.put, List.getElem_toArray, List.getElem_cons_succ, List.getElem_cons_zero, List.setIfInBounds_toArray, List.set_cons_zero, List.set_cons_succ])
                refine wpList_skip (by kernel_rfl) ?_
                (try simp only [Act.put, List.getElem_toArray, List.getElem_cons_succ, List.getElem_cons_zero, List.setIfInBounds_toArray, List.set_cons_zero, List.set_cons_succ])
                refine wpList_val (.bool false) (by rfl) (run_pick_no (.tmp 98) (.tmp 100) (.const (.bool false)) _ rfl rfl rfl) ?_
                (try simp only [Act.put, List.getElem_toArray, List.getElem_cons_succ, List.getElem_cons_zero, List.setIfInBounds_toArray, List.set_cons_zero, List.set_cons_succ])
                refine wpList_val (.bool false) (by rfl) (run_pick_no (.tmp 84) (.const (.bool true)) (.tmp 101) _ rfl rfl rfl) ?_
                (try simp only [Act.put, List.getElem_toArray, List.getElem_cons_succ, List.getElem_cons_zero, List.setIfInBounds_toArray, List.set_cons_zero, List.set_cons_succ])
                refine wpList_nil ?_
                go_upto_region 13 with fail
                refine wp_region_lit ?_
                refine wpList_val (.int .i64 1) (by rfl) (by go_simp) ?_
                (try simp only [Act.put, List.getElem_toArray, List.getElem_cons_succ, List.getElem_cons_zero, List.setIfInBounds_toArray, List.set_cons_zero, List.set_cons_succ])
                refine wpList_val (.bool true) (by rfl) (by go_simp) ?_
                (try simp only [Act.put, List.getElem_toArray, List.getElem_cons_succ, List.getElem_cons_zero, List.setIfInBounds_toArray, List.set_cons_zero, List.set_cons_succ])
                refine wpList_val (.bool true) (by rfl) (by go_simp) ?_
                (try simp only [Act.put, List.getElem_toArray, List.getElem_cons_succ, List.getElem_cons_zero, List.setIfInBounds_toArray, List.set_cons_zero, List.set_cons_succ])
                refine wpList_skip (by kernel_rfl) ?_
                (try simp only [Act.put, List.getElem_toArray, List.getElem_cons_succ, List.getElem_cons_zero, List.setIfInBounds_toArray, List.set_cons_zero, List.set_cons_succ])
                refine wpList_skip (by kernel_rfl) ?_
                (try simp only [Act.put, List.getElem_toArray, List.getElem_cons_succ, List.getElem_cons_zero, List.setIfInBounds_toArray, List.set_cons_zero, List.set_cons_succ])
                refine wpList_val (.bool true) (by rfl) (run_pick_yes (.tmp 105) (.const (.bool true)) (.tmp 107) _ rfl rfl rfl) ?_
                (try simp only [Act.put, List.getElem_toArray, List.getElem_cons_succ, List.getElem_cons_zero, List.setIfInBounds_toArray, List.set_cons_zero, List.set_cons_succ])
                refine wpList_nil ?_
                go_upto_region 14 with fail
                skip
                have R6 := Lib.hid (show ∀ W, Below wr.heap.size wr W → W.rangeAt ga (k * 8 + 2) (vcA x.v).toList from fun W hW j u hu => by
                  have hj : j < 4 := (List.getElem?_eq_some_iff.1 hu).1
                  have h := R5.out W hW (2 + j) u (by rw [← hu]; match j, hj with | 0, _ => rfl | 1, _ => rfl | 2, _ => rfl | 3, _ => rfl)
                  rwa [← Nat.add_assoc] at h)
                refine wp_region_inv (I := fun L ac w' => ac = OnF2 self n k g1 g2 ga c1 c2 c5 b7 P x t f1 f2 f3 u4 f6 f10 f11 f12 f13 f14 f15 f16 f17 f18 f19 f20 f21 f22 f23 f24 f25 f26 f27 f28 f29 f30 f31 f32 f33 f34 f35 f36 f37 f38 f39 f40 f41 f42 f43 f44 f45 f46 f47 f48 f49 f50 f51 f52 f53 u58 u59 u109 u110 u111 u112 u113 u114 u115 u116 u117 u118 u119 u120 L ∧ Kb wr [] w') (by kernel_rfl) (by kernel_rfl) ⟨by kernel_rfl, K0.out.drew⟩ ?_ ?_
                · intro i hi Lx ac w' hI hL haft
                  obtain ⟨rfl, hw⟩ := hI
                  match i, hi with
                  | 0, _ =>
                    have g5 : (OnF2 self n k g1 g2 ga c1 c2 c5 b7 P x t f1 f2 f3 u4 f6 f10 f11 f12 f13 f14 f15 f16 f17 f18 f19 f20 f21 f22 f23 f24 f25 f26 f27 f28 f29 f30 f31 f32 f33 f34 f35 f36 f37 f38 f39 f40 f41 f42 f43 f44 f45 f46 f47 f48 f49 f50 f51 f52 f53 u58 u59 u109 u110 u111 u112 u113 u114 u115 u116 u117 u118 u119 u120 Lx).tmps[5]?.getD undef = .slice (some ⟨ga, 0, none⟩) n c5 := by kernel_rfl
                    have e5 : (OnF2 self n k g1 g2 ga c1 c2 c5 b7 P x t f1 f2 f3 u4 f6 f10 f11 f12 f13 f14 f15 f16 f17 f18 f19 f20 f21 f22 f23 f24 f25 f26 f27 f28 f29 f30 f31 f32 f33 f34 f35 f36 f37 f38 f39 f40 f41 f42 f43 f44 f45 f46 f47 f48 f49 f50 f51 f52 f53 u58 u59 u109 u110 u111 u112 u113 u114 u115 u116 u117 u118 u119 u120 Lx).eval (.tmp 5) = .slice (some ⟨ga, 0, none⟩) n c5 := by kernel_rfl
                    exact i_val rfl (.slice (some ⟨ga, 0, none⟩) n c5) w' (by rfl) (by go_simp) ⟨by kernel_rfl, hw⟩
                  | 1, _ =>
                    have g8 : (OnF2 self n k g1 g2 ga c1 c2 c5 b7 P x t f1 f2 f3 u4 f6 f10 f11 f12 f13 f14 f15 f16 f17 f18 f19 f20 f21 f22 f23 f24 f25 f26 f27 f28 f29 f30 f31 f32 f33 f34 f35 f36 f37 f38 f39 f40 f41 f42 f43 f44 f45 f46 f47 f48 f49 f50 f51 f52 f53 u58 u59 u109 u110 u111 u112 u113 u114 u115 u116 u117 u118 u119 u120 Lx).tmps[8]?.getD undef = .int .i64 (k : Nat) := by kernel_rfl
                    have e8 : (OnF2 self n k g1 g2 ga c1 c2 c5 b7 P x t f1 f2 f3 u4 f6 f10 f11 f12 f13 f14 f15 f16 f17 f18 f19 f20 f21 f22 f23 f24 f25 f26 f27 f28 f29 f30 f31 f32 f33 f34 f35 f36 f37 f38 f39 f40 f41 f42 f43 f44 f45 f46 f47 f48 f49 f50 f51 f52 f53 u58 u59 u109 u110 u111 u112 u113 u114 u115 u116 u117 u118 u119 u120 Lx).eval (.tmp 8) = .int .i64 (k : Nat) := by kernel_rfl
                    exact i_val rfl (.int .i64 (k : Nat)) w' (by rfl) (by go_simp) ⟨by kernel_rfl, hw⟩
                  | 2, _ =>
                    have h0 := haft 0 (by decide)
                    have e109 : (OnF2 self n k g1 g2 ga c1 c2 c5 b7 P x t f1 f2 f3 u4 f6 f10 f11 f12 f13 f14 f15 f16 f17 f18 f19 f20 f21 f22 f23 f24 f25 f26 f27 f28 f29 f30 f31 f32 f33 f34 f35 f36 f37 f38 f39 f40 f41 f42 f43 f44 f45 f46 f47 f48 f49 f50 f51 f52 f53 u58 u59 u109 u110 u111 u112 u113 u114 u115 u116 u117 u118 u119 u120 Lx).eval (.tmp 109) = .slice (some ⟨ga, 0, none⟩) n c5 := by show (bif Lx 0 then _ else _) = _; rw [h0]; rfl
                    have g109 : (OnF2 self n k g1 g2 ga c1 c2 c5 b7 P x t f1 f2 f3 u4 f6 f10 f11 f12 f13 f14 f15 f16 f17 f18 f19 f20 f21 f22 f23 f24 f25 f26 f27 f28 f29 f30 f31 f32 f33 f34 f35 f36 f37 f38 f39 f40 f41 f42 f43 f44 f45 f46 f47 f48 f49 f50 f51 f52 f53 u58 u59 u109 u110 u111 u112 u113 u114 u115 u116 u117 u118 u119 u120 Lx).tmps[109]?.getD undef = .slice (some ⟨ga, 0, none⟩) n c5 := by show (bif Lx 0 then _ else _) = _; rw [h0]; rfl
                    have h1 := haft 1 (by decide)
                    have e110 : (OnF2 self n k g1 g2 ga c1 c2 c5 b7 P x t f1 f2 f3 u4 f6 f10 f11 f12 f13 f14 f15 f16 f17 f18 f19 f20 f21 f22 f23 f24 f25 f26 f27 f28 f29 f30 f31 f32 f33 f34 f35 f36 f37 f38 f39 f40 f41 f42 f43 f44 f45 f46 f47 f48 f49 f50 f51 f52 f53 u58 u59 u109 u110 u111 u112 u113 u114 u115 u116 u117 u118 u119 u120 Lx).eval (.tmp 110) = .int .i64 (k : Nat) := by show (bif Lx 1 then _ else _) = _; rw [h1]; rfl
                    have g110 : (OnF2 self n k g1 g2 ga c1 c2 c5 b7 P x t f1 f2 f3 u4 f6 f10 f11 f12 f13 f14 f15 f16 f17 f18 f19 f20 f21 f22 f23 f24 f25 f26 f27 f28 f29 f30 f31 f32 f33 f34 f35 f36 f37 f38 f39 f40 f41 f42 f43 f44 f45 f46 f47 f48 f49 f50 f51 f52 f53 u58 u59 u109 u110 u111 u112 u113 u114 u115 u116 u117 u118 u119 u120 Lx).tmps[110]?.getD undef = .int .i64 (k : Nat) := by show (bif Lx 1 then _ else _) = _; rw [h1]; rfl
                    exact i_val rfl (.pointer (some ⟨ga, k * 8, none⟩)) w' (by rfl) (by go_simp) ⟨by kernel_rfl, hw⟩
                  | 3, _ =>
                    have h2 := haft 2 (by decide)
                    have e111 : (OnF2 self n k g1 g2 ga c1 c2 c5 b7 P x t f1 f2 f3 u4 f6 f10 f11 f12 f13 f14 f15 f16 f17 f18 f19 f20 f21 f22 f23 f24 f25 f26 f27 f28 f29 f30 f31 f32 f33 f34 f35 f36 f37 f38 f39 f40 f41 f42 f43 f44 f45 f46 f47 f48 f49 f50 f51 f52 f53 u58 u59 u109 u110 u111 u112 u113 u114 u115 u116 u117 u118 u119 u120 Lx).eval (.tmp 111) = .pointer (some ⟨ga, k * 8, none⟩) := by show (bif Lx 2 then _ else _) = _; rw [h2]; rfl
                    have g111 : (OnF2 self n k g1 g2 ga c1 c2 c5 b7 P x t f1 f2 f3 u4 f6 f10 f11 f12 f13 f14 f15 f16 f17 f18 f19 f20 f21 f22 f23 f24 f25 f26 f27 f28 f29 f30 f31 f32 f33 f34 f35 f36 f37 f38 f39 f40 f41 f42 f43 f44 f45 f46 f47 f48 f49 f50 f51 f52 f53 u58 u59 u109 u110 u111 u112 u113 u114 u115 u116 u117 u118 u119 u120 Lx).tmps[111]?.getD undef = .pointer (some ⟨ga, k * 8, none⟩) := by show (bif Lx 2 then _ else _) = _; rw [h2]; rfl
                    exact i_val rfl (.pointer (some ⟨ga, k * 8 + 2, none⟩)) w' (by rfl) (by go_simp) ⟨by kernel_rfl, hw⟩
                  | 4, _ =>
                    have h3 := haft 3 (by decide)
                    have e112 : (OnF2 self n k g1 g2 ga c1 c2 c5 b7 P x t f1 f2 f3 u4 f6 f10 f11 f12 f13 f14 f15 f16 f17 f18 f19 f20 f21 f22 f23 f24 f25 f26 f27 f28 f29 f30 f31 f32 f33 f34 f35 f36 f37 f38 f39 f40 f41 f42 f43 f44 f45 f46 f47 f48 f49 f50 f51 f52 f53 u58 u59 u109 u110 u111 u112 u113 u114 u115 u116 u117 u118 u119 u120 Lx).eval (.tmp 112) = .pointer (some ⟨ga, k * 8 + 2, none⟩) := by show (bif Lx 3 then _ else _) = _; rw [h3]; rfl
                    have g112 : (OnF2 self n k g1 g2 ga c1 c2 c5 b7 P x t f1 f2 f3 u4 f6 f10 f11 f12 f13 f14 f15 f16 f17 f18 f19 f20 f21 f22 f23 f24 f25 f26 f27 f28 f29 f30 f31 f32 f33 f34 f35 f36 f37 f38 f39 f40 f41 f42 f43 f44 f45 f46 f47 f48 f49 f50 f51 f52 f53 u58 u59 u109 u110 u111 u112 u113 u114 u115 u116 u117 u118 u119 u120 Lx).tmps[112]?.getD undef = .pointer (some ⟨ga, k * 8 + 2, none⟩) := by show (bif Lx 3 then _ else _) = _; rw [h3]; rfl
                    exact i_val rfl (.agg (vcA x.v)) w' (by rfl) (run_loadRange 44 _ rfl ga (k * 8 + 2) e112 (vcA x.v) _ (R6.out _ hw.below) Try.underlying44 rfl sizeV) ⟨by kernel_rfl, hw⟩
                  | 5, _ =>
                    have g7 : (OnF2 self n k g1 g2 ga c1 c2 c5 b7 P x t f1 f2 f3 u4 f6 f10 f11 f12 f13 f14 f15 f16 f17 f18 f19 f20 f21 f22 f23 f24 f25 f26 f27 f28 f29 f30 f31 f32 f33 f34 f35 f36 f37 f38 f39 f40 f41 f42 f43 f44 f45 f46 f47 f48 f49 f50 f51 f52 f53 u58 u59 u109 u110 u111 u112 u113 u114 u115 u116 u117 u118 u119 u120 Lx).tmps[7]?.getD undef = .pointer (some ⟨b7, 0, none⟩) := by kernel_rfl
                    have e7 : (OnF2 self n k g1 g2 ga c1 c2 c5 b7 P x t f1 f2 f3 u4 f6 f10 f11 f12 f13 f14 f15 f16 f17 f18 f19 f20 f21 f22 f23 f24 f25 f26 f27 f28 f29 f30 f31 f32 f33 f34 f35 f36 f37 f38 f39 f40 f41 f42 f43 f44 f45 f46 f47 f48 f49 f50 f51 f52 f53 u58 u59 u109 u110 u111 u112 u113 u114 u115 u116 u117 u118 u119 u120 Lx).eval (.tmp 7) = .pointer (some ⟨b7, 0, none⟩) := by kernel_rfl
                    exact i_val rfl (.pointer (some ⟨b7, 4, none⟩)) w' (by rfl) (by go_simp) ⟨by kernel_rfl, hw⟩
                  | 6, _ =>
                    have h5 := haft 5 (by decide)
                    have e114 : (OnF2 self n k g1 g2 ga c1 c2 c5 b7 P x t f1 f2 f3 u4 f6 f10 f11 f12 f13 f14 f15 f16 f17 f18 f19 f20 f21 f22 f23 f24 f25 f26 f27 f28 f29 f30 f31 f32 f33 f34 f35 f36 f37 f38 f39 f40 f41 f42 f43 f44 f45 f46 f47 f48 f49 f50 f51 f52 f53 u58 u59 u109 u110 u111 u112 u113 u114 u115 u116 u117 u118 u119 u120 Lx).eval (.tmp 114) = .pointer (some ⟨b7, 4, none⟩) := by show (bif Lx 5 then _ else _) = _; rw [h5]; rfl
                    have g114 : (OnF2 self n k g1 g2 ga c1 c2 c5 b7 P x t f1 f2 f3 u4 f6 f10 f11 f12 f13 f14 f15 f16 f17 f18 f19 f20 f21 f22 f23 f24 f25 f26 f27 f28 f29 f30 f31 f32 f33 f34 f35 f36 f37 f38 f39 f40 f41 f42 f43 f44 f45 f46 f47 f48 f49 f50 f51 f52 f53 u58 u59 u109 u110 u111 u112 u113 u114 u115 u116 u117 u118 u119 u120 Lx).tmps[114]?.getD undef = .pointer (some ⟨b7, 4, none⟩) := by show (bif Lx 5 then _ else _) = _; rw [h5]; rfl
                    exact i_val rfl (.slice (some ⟨g2, 0, none⟩) n c2) w' (by rfl) (by have q : w'.cell? ⟨b7, 4, none⟩ = some (.slice (some ⟨g2, 0, none⟩) n c2) := (C7.out _ hw.below).cell 4; go_simp) ⟨by kernel_rfl, hw⟩
                  | 7, _ =>
                    have g8 : (OnF2 self n k g1 g2 ga c1 c2 c5 b7 P x t f1 f2 f3 u4 f6 f10 f11 f12 f13 f14 f15 f16 f17 f18 f19 f20 f21 f22 f23 f24 f25 f26 f27 f28 f29 f30 f31 f32 f33 f34 f35 f36 f37 f38 f39 f40 f41 f42 f43 f44 f45 f46 f47 f48 f49 f50 f51 f52 f53 u58 u59 u109 u110 u111 u112 u113 u114 u115 u116 u117 u118 u119 u120 Lx).tmps[8]?.getD undef = .int .i64 (k : Nat) := by kernel_rfl
                    have e8 : (OnF2 self n k g1 g2 ga c1 c2 c5 b7 P x t f1 f2 f3 u4 f6 f10 f11 f12 f13 f14 f15 f16 f17 f18 f19 f20 f21 f22 f23 f24 f25 f26 f27 f28 f29 f30 f31 f32 f33 f34 f35 f36 f37 f38 f39 f40 f41 f42 f43 f44 f45 f46 f47 f48 f49 f50 f51 f52 f53 u58 u59 u109 u110 u111 u112 u113 u114 u115 u116 u117 u118 u119 u120 Lx).eval (.tmp 8) = .int .i64 (k : Nat) := by kernel_rfl
                    exact i_val rfl (.int .i64 (k : Nat)) w' (by rfl) (by go_simp) ⟨by kernel_rfl, hw⟩
                  | 8, _ =>
                    have h6 := haft 6 (by decide)
                    have e115 : (OnF2 self n k g1 g2 ga c1 c2 c5 b7 P x t f1 f2 f3 u4 f6 f10 f11 f12 f13 f14 f15 f16 f17 f18 f19 f20 f21 f22 f23 f24 f25 f26 f27 f28 f29 f30 f31 f32 f33 f34 f35 f36 f37 f38 f39 f40 f41 f42 f43 f44 f45 f46 f47 f48 f49 f50 f51 f52 f53 u58 u59 u109 u110 u111 u112 u113 u114 u115 u116 u117 u118 u119 u120 Lx).eval (.tmp 115) = .slice (some ⟨g2, 0, none⟩) n c2 := by show (bif Lx 6 then _ else _) = _; rw [h6]; rfl
                    have g115 : (OnF2 self n k g1 g2 ga c1 c2 c5 b7 P x t f1 f2 f3 u4 f6 f10 f11 f12 f13 f14 f15 f16 f17 f18 f19 f20 f21 f22 f23 f24 f25 f26 f27 f28 f29 f30 f31 f32 f33 f34 f35 f36 f37 f38 f39 f40 f41 f42 f43 f44 f45 f46 f47 f48 f49 f50 f51 f52 f53 u58 u59 u109 u110 u111 u112 u113 u114 u115 u116 u117 u118 u119 u120 Lx).tmps[115]?.getD undef = .slice (some ⟨g2, 0, none⟩) n c2 := by show (bif Lx 6 then _ else _) = _; rw [h6]; rfl
                    have h7 := haft 7 (by decide)
                    have e116 : (OnF2 self n k g1 g2 ga c1 c2 c5 b7 P x t f1 f2 f3 u4 f6 f10 f11 f12 f13 f14 f15 f16 f17 f18 f19 f20 f21 f22 f23 f24 f25 f26 f27 f28 f29 f30 f31 f32 f33 f34 f35 f36 f37 f38 f39 f40 f41 f42 f43 f44 f45 f46 f47 f48 f49 f50 f51 f52 f53 u58 u59 u109 u110 u111 u112 u113 u114 u115 u116 u117 u118 u119 u120 Lx).eval (.tmp 116) = .int .i64 (k : Nat) := by show (bif Lx 7 then _ else _) = _; rw [h7]; rfl
                    have g116 : (OnF2 self n k g1 g2 ga c1 c2 c5 b7 P x t f1 f2 f3 u4 f6 f10 f11 f12 f13 f14 f15 f16 f17 f18 f19 f20 f21 f22 f23 f24 f25 f26 f27 f28 f29 f30 f31 f32 f33 f34 f35 f36 f37 f38 f39 f40 f41 f42 f43 f44 f45 f46 f47 f48 f49 f50 f51 f52 f53 u58 u59 u109 u110 u111 u112 u113 u114 u115 u116 u117 u118 u119 u120 Lx).tmps[116]?.getD undef = .int .i64 (k : Nat) := by show (bif Lx 7 then _ else _) = _; rw [h7]; rfl
                    exact i_val rfl (.pointer (some ⟨g2, k * 4, none⟩)) w' (by rfl) (by go_simp) ⟨by kernel_rfl, hw⟩
                  | 9, _ =>
                    have h8 := haft 8 (by decide)
                    have e117 : (OnF2 self n k g1 g2 ga c1 c2 c5 b7 P x t f1 f2 f3 u4 f6 f10 f11 f12 f13 f14 f15 f16 f17 f18 f19 f20 f21 f22 f23 f24 f25 f26 f27 f28 f29 f30 f31 f32 f33 f34 f35 f36 f37 f38 f39 f40 f41 f42 f43 f44 f45 f46 f47 f48 f49 f50 f51 f52 f53 u58 u59 u109 u110 u111 u112 u113 u114 u115 u116 u117 u118 u119 u120 Lx).eval (.tmp 117) = .pointer (some ⟨g2, k * 4, none⟩) := by show (bif Lx 8 then _ else _) = _; rw [h8]; rfl
                    have g117 : (OnF2 self n k g1 g2 ga c1 c2 c5 b7 P x t f1 f2 f3 u4 f6 f10 f11 f12 f13 f14 f15 f16 f17 f18 f19 f20 f21 f22 f23 f24 f25 f26 f27 f28 f29 f30 f31 f32 f33 f34 f35 f36 f37 f38 f39 f40 f41 f42 f43 f44 f45 f46 f47 f48 f49 f50 f51 f52 f53 u58 u59 u109 u110 u111 u112 u113 u114 u115 u116 u117 u118 u119 u120 Lx).tmps[117]?.getD undef = .pointer (some ⟨g2, k * 4, none⟩) := by show (bif Lx 8 then _ else _) = _; rw [h8]; rfl
                    exact i_val rfl (.agg (vcA t)) w' (by rfl) (run_loadRange 44 _ rfl g2 (k * 4) e117 (vcA t) _ (R2.out _ hw.below) Try.underlying44 rfl sizeV) ⟨by kernel_rfl, hw⟩
                  | 10, _ =>
                    have h4 := haft 4 (by decide)
                    have e113 : (OnF2 self n k g1 g2 ga c1 c2 c5 b7 P x t f1 f2 f3 u4 f6 f10 f11 f12 f13 f14 f15 f16 f17 f18 f19 f20 f21 f22 f23 f24 f25 f26 f27 f28 f29 f30 f31 f32 f33 f34 f35 f36 f37 f38 f39 f40 f41 f42 f43 f44 f45 f46 f47 f48 f49 f50 f51 f52 f53 u58 u59 u109 u110 u111 u112 u113 u114 u115 u116 u117 u118 u119 u120 Lx).eval (.tmp 113) = .agg (vcA x.v) := by show (bif Lx 4 then _ else _) = _; rw [h4]; rfl
                    have g113 : (OnF2 self n k g1 g2 ga c1 c2 c5 b7 P x t f1 f2 f3 u4 f6 f10 f11 f12 f13 f14 f15 f16 f17 f18 f19 f20 f21 f22 f23 f24 f25 f26 f27 f28 f29 f30 f31 f32 f33 f34 f35 f36 f37 f38 f39 f40 f41 f42 f43 f44 f45 f46 f47 f48 f49 f50 f51 f52 f53 u58 u59 u109 u110 u111 u112 u113 u114 u115 u116 u117 u118 u119 u120 Lx).tmps[113]?.getD undef = .agg (vcA x.v) := by show (bif Lx 4 then _ else _) = _; rw [h4]; rfl
                    have h9 := haft 9 (by decide)
                    have e118 : (OnF2 self n k g1 g2 ga c1 c2 c5 b7 P x t f1 f2 f3 u4 f6 f10 f11 f12 f13 f14 f15 f16 f17 f18 f19 f20 f21 f22 f23 f24 f25 f26 f27 f28 f29 f30 f31 f32 f33 f34 f35 f36 f37 f38 f39 f40 f41 f42 f43 f44 f45 f46 f47 f48 f49 f50 f51 f52 f53 u58 u59 u109 u110 u111 u112 u113 u114 u115 u116 u117 u118 u119 u120 Lx).eval (.tmp 118) = .agg (vcA t) := by show (bif Lx 9 then _ else _) = _; rw [h9]; rfl
                    have g118 : (OnF2 self n k g1 g2 ga c1 c2 c5 b7 P x t f1 f2 f3 u4 f6 f10 f11 f12 f13 f14 f15 f16 f17 f18 f19 f20 f21 f22 f23 f24 f25 f26 f27 f28 f29 f30 f31 f32 f33 f34 f35 f36 f37 f38 f39 f40 f41 f42 f43 f44 f45 f46 f47 f48 f49 f50 f51 f52 f53 u58 u59 u109 u110 u111 u112 u113 u114 u115 u116 u117 u118 u119 u120 Lx).tmps[118]?.getD undef = .agg (vcA t) := by show (bif Lx 9 then _ else _) = _; rw [h9]; rfl
                    exact i_call rfl (.bool true) 13 #[.agg (vcA x.v), .agg (vcA t)] (fun w2 => Below w'.heap.size w' w2) (by rfl) (by go_simp) (by have q := better_any x.v t w'; rw [hls] at q; exact q) (fun w2 hb => ⟨by kernel_rfl, hw.next hb⟩)
                  | 11, _ =>
                    have h10 := haft 10 (by decide)
                    have e119 : (OnF2 self n k g1 g2 ga c1 c2 c5 b7 P x t f1 f2 f3 u4 f6 f10 f11 f12 f13 f14 f15 f16 f17 f18 f19 f20 f21 f22 f23 f24 f25 f26 f27 f28 f29 f30 f31 f32 f33 f34 f35 f36 f37 f38 f39 f40 f41 f42 f43 f44 f45 f46 f47 f48 f49 f50 f51 f52 f53 u58 u59 u109 u110 u111 u112 u113 u114 u115 u116 u117 u118 u119 u120 Lx).eval (.tmp 119) = .bool true := by show (bif Lx 10 then _ else _) = _; rw [h10]; rfl
                    have g119 : (OnF2 self n k g1 g2 ga c1 c2 c5 b7 P x t f1 f2 f3 u4 f6 f10 f11 f12 f13 f14 f15 f16 f17 f18 f19 f20 f21 f22 f23 f24 f25 f26 f27 f28 f29 f30 f31 f32 f33 f34 f35 f36 f37 f38 f39 f40 f41 f42 f43 f44 f45 f46 f47 f48 f49 f50 f51 f52 f53 u58 u59 u109 u110 u111 u112 u113 u114 u115 u116 u117 u118 u119 u120 Lx).tmps[119]?.getD undef = .bool true := by show (bif Lx 10 then _ else _) = _; rw [h10]; rfl
                    exact i_val rfl (.bool false) w' (by rfl) (by go_simp) ⟨by kernel_rfl, hw⟩
                  | k + 12, h =>
                    exfalso
                    have h2 : k + 12 < 12 := h
                    omega
                intro Lx ac w1 hI hall
                obtain ⟨rfl, hw⟩ := hI
                have hfr : OnF2 self n k g1 g2 ga c1 c2 c5 b7 P x t f1 f2 f3 u4 f6 f10 f11 f12 f13 f14 f15 f16 f17 f18 f19 f20 f21 f22 f23 f24 f25 f26 f27 f28 f29 f30 f31 f32 f33 f34 f35 f36 f37 f38 f39 f40 f41 f42 f43 f44 f45 f46 f47 f48 f49 f50 f51 f52 f53 u58 u59 u109 u110 u111 u112 u113 u114 u115 u116 u117 u118 u119 u120 Lx = { tmps := #[.int .u64 (self : Nat), f1, f2, f3, u4, .slice (some ⟨ga, 0, none⟩) n c5, f6, .pointer (some ⟨b7, 0, none⟩), .int .i64 (k : Nat), .int .i64 1, f10, f11, f12, f13, f14, f15, f16, f17, f18, f19, f20, f21, f22, f23, f24, f25, f26, f27, f28, f29, f30, f31, f32, f33, f34, f35, f36, f37, f38, f39, f40, f41, f42, f43, f44, f45, f46, f47, f48, f49, f50, f51, f52, f53, .int .i64 (k : Nat), .slice (some ⟨ga, 0, none⟩) n c5, .int .i64 (n : Nat), .bool true, u58, u59, .pointer (some ⟨b7, 3, none⟩), .slice (some ⟨g1, 0, none⟩) n c1, .int .i64 (k : Nat), .pointer (some ⟨g1, k, none⟩), .int .i64 1, .int .i64 1, .bool false, .pointer (some ⟨b7, 2, none⟩), .int .i64 P, .int .i64 (k : Nat), .int .i64 ((k : Int) + 1), .bool false, .bool false, .bool false, .int .i64 1, .bool false, .slice (some ⟨ga, 0, none⟩) n c5, .int .i64 (k : Nat), .pointer (some ⟨ga, k * 8, none⟩), .pointer (some ⟨ga, k * 8, none⟩), .bool true, .bool false, .bool false, .bool false, .bool false, .slice (some ⟨ga, 0, none⟩) n c5, .int .i64 (k : Nat), .pointer (some ⟨ga, k * 8, none⟩), .pointer (some ⟨ga, k * 8, none⟩), .bool true, .bool true, .slice (some ⟨ga, 0, none⟩) n c5, .int .i64 (k : Nat), .pointer (some ⟨ga, k * 8, none⟩), .pointer (some ⟨ga, k * 8 + 1, none⟩), .bool true, .bool false, .bool false, .bool false, undef, undef, .bool false, .bool false, .int .i64 1, .bool true, .bool true, undef, undef, .bool true, .slice (some ⟨ga, 0, none⟩) n c5, .int .i64 (k : Nat), .pointer (some ⟨ga, k * 8, none⟩), .pointer (some ⟨ga, k * 8 + 2, none⟩), .agg (vcA x.v), .pointer (some ⟨b7, 4, none⟩), .slice (some ⟨g2, 0, none⟩) n c2, .int .i64 (k : Nat), .pointer (some ⟨g2, k * 4, none⟩), .agg (vcA t), .bool true, .bool false], defers := [] } := by unfold OnF2; simp only [hall 0 (by decide), hall 1 (by decide), hall 2 (by decide), hall 3 (by decide), hall 4 (by decide), hall 5 (by decide), hall 6 (by decide), hall 7 (by decide), hall 8 (by decide), hall 9 (by decide), hall 10 (by decide), hall 11 (by decide), cond_true]
                rw [hfr]
                clear hfr
                have K1 := Lib.hid (show Kb wr [] w1 from hw)
                clear hw hall
                have hk16 : (k : Int) < 16 := by omega
                go_wp2_with fail
                go_roundw
                case rel => exact ⟨k + 1, by omega, by go_num, BR.out.trans (K1.out.below.mono BR.out.size)⟩
                case measure => simp [intOf]; omega
end Go.Proofs.Ytojijeaofkndpaa
