/- The choice: its loop. -/
import Derived.Test.YtojijeaofkndpaaRo4
namespace Go.Proofs.Ytojijeaofkndpaa
open Go.RowKit
attribute [local irreducible] wpQuiet wpList
set_option linter.unusedSimpArgs false
set_option linter.unusedVariables false

/-- The roles, the root port's among them. -/
def rolesE (self R C : Nat) (P : Int) (l : List Rp) (n : Nat) : List Int := if 0 < P then (rolesK self R C l n).set (P - 1).toNat 3 else rolesK self R C l n
def ChF (self n m k g R C : Nat) (x : Rp) (v1 : Value) (b4 b5 bp bt : Nat) (f2 f3 f6 f7 f10 f11 f12 f13 f14 f15 f16 f17 f18 f19 f20 f21 f22 f23 f24 f25 f26 f27 f28 f29 f30 f31 f32 f33 f34 f35 u50 u51 u52 u53 u54 u55 u56 u57 u58 u59 u60 u61 u62 u63 u64 u65 f66 f67 f68 f69 f70 f71 f72 f73 f74 f75 : Value) (L : Nat → Bool) (v56 v57 : Value) : Act := { tmps := #[.int .u64 (self : Nat), .slice (some ⟨g, 0, none⟩) n m, f2, f3, .pointer (some ⟨b4, 0, none⟩), .pointer (some ⟨b5, 0, none⟩), f6, f7, .pointer (some ⟨bp, 0, none⟩), .pointer (some ⟨bt, 0, none⟩), f10, f11, f12, f13, f14, f15, f16, f17, f18, f19, f20, f21, f22, f23, f24, f25, f26, f27, f28, f29, f30, f31, f32, f33, f34, f35, .slice (some ⟨g, 0, none⟩) n m, .int .i64 (n : Nat), .int .i64 (k : Nat), .bool true, .pointer (some ⟨g, k * 8, none⟩), .agg (rpA x), .pointer (some ⟨b5, 0, none⟩), .int .u64 (R : Nat), .pointer (some ⟨b5, 1, none⟩), .int .u32 (C : Nat), .int .u64 (self : Nat), .pointer (some ⟨bp, 7, none⟩), .int .u16 (x.i : Nat), .agg (vcA (tellsV self R C x)), bif L 0 then .pointer (some ⟨b5, 3, none⟩) else u50, bif L 1 then v1 else u51, bif L 2 then .agg (rpA x) else u52, bif L 3 then .int .u64 (self : Nat) else u53, bif L 4 then .agg (vcA (tellsV self R C x)) else u54, bif L 5 then .int .i64 (roleN self (tellsV self R C x) x) else u55, v56, v57, bif L 8 then .pointer (some ⟨b5, 3, none⟩) else u58, u59, u60, u61, u62, u63, u64, u65, f66, f67, f68, f69, f70, f71, f72, f73, f74, f75], defers := [] }
set_option maxRecDepth 100000 in
set_option maxHeartbeats 8000000 in
theorem ch5 (self : Nat) (l : List Rp) (n m : Nat) (a : Option Addr) (R C : Nat) (P : Int) (b4 b5 : Nat) (f2 f3 f6 f7 f8 f9 f10 f11 f12 f13 f14 f15 f16 f17 f18 f19 f20 f21 f22 f23 f24 f25 f26 f27 f28 f29 f30 f31 f32 f33 f34 f35 f36 f37 f38 f39 f40 f41 f42 f43 f44 f45 f46 f47 f48 f49 f50 f51 f52 f53 f54 f55 f56 f57 f58 f59 f60 f61 f62 f63 f64 f65 f66 f67 f68 f69 f70 f71 f72 f73 f74 f75 : Value) (w wj : World) (B : Nat) (hl : l.length = n) (hn : n ≤ 100) (hP : 0 ≤ P ∧ P ≤ n) (ho : Own w B 47 8 rpC (.slice a n m) l) (hc : ChW w R C P b4 b5 (.slice none 0 0) (.slice none 0 0) [] [] wj) :
    Code.wp Try.prog (tail11 5) (bodyPost Try.prog Try.f11 fun e w' => ∃ u1 u2, e = .returned (.agg (chA R C P u1 u2)) ∧ Own w' w.heap.size 3 1 inC u1 (rolesE self R C P l n) ∧ Own w' w.heap.size 44 4 vcC u2 (tellsK self R C l n) ∧ Below w.heap.size w w') { tmps := #[.int .u64 (self : Nat), .slice a n m, f2, f3, .pointer (some ⟨b4, 0, none⟩), .pointer (some ⟨b5, 0, none⟩), f6, f7, f8, f9, f10, f11, f12, f13, f14, f15, f16, f17, f18, f19, f20, f21, f22, f23, f24, f25, f26, f27, f28, f29, f30, f31, f32, f33, f34, f35, f36, f37, f38, f39, f40, f41, f42, f43, f44, f45, f46, f47, f48, f49, f50, f51, f52, f53, f54, f55, f56, f57, f58, f59, f60, f61, f62, f63, f64, f65, f66, f67, f68, f69, f70, f71, f72, f73, f74, f75], defers := [] } wj := by
  have HO := Lib.hid ho
  have HL := Lib.hid hl
  have HP := Lib.hid hP
  have H0 := Lib.hid hc
  have hcap : n ≤ m ∧ m ≤ maxLen := by
    obtain ⟨a', c', e, h1, h2⟩ := ho.shape
    injection e with _ e2 e3
    subst e3
    omega
  have hm2 : (m : Int) ≤ 9223372036854775807 := by have := hcap.2; unfold maxLen at *; omega
  have hnm : n ≤ m := hcap.1
  clear ho hl hcap hc hP
  conv => arg 2; whnf
  conv => arg 4; zeta
  go_upto_region 6 with fail
  rename_i KX hKX
  have HKX := Lib.hid hKX
  clear hKX
  go_loopw [38] (fun i wr => ∃ (k : Nat) (v1 v2 : Value), k ≤ n ∧ i = .int .i64 k ∧ ChW w R C P b4 b5 v1 v2 (rolesK self R C l k) (tellsK self R C l k) wr) (fun i _ => (n - intOf i).toNat)
  case atStart => exact ⟨0, _, _, by omega, rfl, H0.out⟩
  case round =>
    obtain ⟨k, v1, v2, hk, rfl, hC⟩ := hrel
    have HC := Lib.hid hC
    clear hC
    by_cases hlt : (k : Int) < (n : Int)
    case neg =>
      obtain rfl : k = n := by omega
      go_upto_region 6 with fail
      refine wp_region_lit ?_
      refine wpList_val (.bool false) (by rfl) (by have q := hlt; go_simp) ?_
      (try simp only [Act.put, List.getElem_toArray, List.getElem_cons_succ, List.getElem_cons_zero, List.setIfInBounds_toArray, List.set_cons_zero, List.set_cons_succ])
      refine wpList_nil ?_
      go_wp2_with fail
      refine HKX.out _ _ ?_
      go_upto_region 12 with fail
      rename_i KY hKY KZ hKZ
      have HKY := Lib.hid hKY
      clear hKY
      have C5 := Lib.hid (show ∀ W, Below wr.heap.size wr W → Blk W b5 (chA R C P v1 v2) 34 from fun W hW => HC.out.k5.below hW HC.out.k5.lt)
      have KN := Lib.hid (Kb.nil wr)
      have L1 := Lib.hid (show (rolesK self R C l k).length = k from tk_len _ (by rw [HL.out]; omega))
      by_cases h0 : 0 < P
      case neg =>
        have E1 : rolesE self R C P l k = rolesK self R C l k := by unfold rolesE; rw [if_neg h0]
        refine wp_region_lit ?_
        refine wpList_val (.pointer (some ⟨b5, 2, none⟩)) (by rfl) (by go_simp) ?_
        (try simp only [Act.put, List.getElem_toArray, List.getElem_cons_succ, List.getElem_cons_zero, List.setIfInBounds_toArray, List.set_cons_zero, List.set_cons_succ])
        refine wpList_val (.int .i64 P) (by rfl) (by have q : wr.cell? ⟨b5, 2, none⟩ = some (.int .i64 P) := (C5.out _ KN.out.below).cell 2; go_simp) ?_
        (try simp only [Act.put, List.getElem_toArray, List.getElem_cons_succ, List.getElem_cons_zero, List.setIfInBounds_toArray, List.set_cons_zero, List.set_cons_succ])
        refine wpList_val (.bool false) (by rfl) (by have q := h0; go_simp) ?_
        (try simp only [Act.put, List.getElem_toArray, List.getElem_cons_succ, List.getElem_cons_zero, List.setIfInBounds_toArray, List.set_cons_zero, List.set_cons_succ])
        refine wpList_nil ?_
        go_wp2_with fail
        skip
        exact HKY.out _ _ (ch14 R C P b4 b5 v1 v2 (rolesE self R C P l k) _ _ _ _ _ _ _ _ _ _ _ _ _ _ _ _ _ _ _ _ _ _ _ _ _ _ _ _ _ _ _ _ _ _ _ _ _ _ _ _ _ _ _ _ _ _ _ _ _ _ _ _ _ _ _ _ _ _ _ _ _ _ _ _ _ _ _ _ _ _ _ _ _ _ _ w wr (by rw [E1]; exact HC.out))
      case pos =>
        obtain ⟨q, rfl⟩ : ∃ q : Nat, P = (q : Int) + 1 := ⟨(P - 1).toNat, by omega⟩
        have hq : q < k := by have := HP.out; omega
        have E1 : rolesE self R C ((q : Int) + 1) l k = (rolesK self R C l k).set q 3 := by unfold rolesE; rw [if_pos h0]; congr 1; omega
        obtain ⟨r, hr⟩ : ∃ r, (rolesK self R C l k)[q]? = some r := ⟨_, List.getElem?_eq_getElem (by rw [L1.out]; exact hq)⟩
        obtain ⟨a1, c1, ev, hc1, hm1⟩ := HC.out.o1.shape
        subst ev
        obtain ⟨g1, ea, hg1, hg2, hat⟩ := Own.elem in_len HC.out.o1 hr
        subst ea
        have Q1 := Lib.hid (show wr.cell? ⟨g1, q * 1, none⟩ = some (.int .i64 r) from hat wr (Below.refl _ _) 0 _ rfl)
        have Q2 := Lib.hid (show wr.frozen? ⟨g1, q * 1, none⟩ = false from HC.out.o1.free (q * 1))
        have ST := Lib.hid (HC.out.o1.store in_len q 3 (by rw [L1.out]; exact hq)).1
        have hcq : (rolesK self R C l k).length ≤ c1 := hc1
        have hlq : (rolesK self R C l k).length = k := L1.out
        have hcm : (c1 : Int) ≤ 9223372036854775807 := by unfold maxLen at hm1; omega
        refine wp_region_lit ?_
        refine wpList_val (.pointer (some ⟨b5, 2, none⟩)) (by rfl) (by go_simp) ?_
        (try simp only [Act.put, List.getElem_toArray, List.getElem_cons_succ, List.getElem_cons_zero, List.setIfInBounds_toArray, List.set_cons_zero, List.set_cons_succ])
        refine wpList_val (.int .i64 ((q : Int) + 1)) (by rfl) (by have q1 : wr.cell? ⟨b5, 2, none⟩ = some (.int .i64 ((q : Int) + 1)) := (C5.out _ KN.out.below).cell 2; go_simp) ?_
        (try simp only [Act.put, List.getElem_toArray, List.getElem_cons_succ, List.getElem_cons_zero, List.setIfInBounds_toArray, List.set_cons_zero, List.set_cons_succ])
        refine wpList_val (.bool true) (by rfl) (by have q := h0; go_simp) ?_
        (try simp only [Act.put, List.getElem_toArray, List.getElem_cons_succ, List.getElem_cons_zero, List.setIfInBounds_toArray, List.set_cons_zero, List.set_cons_succ])
        refine wpList_nil ?_
        go_upto_region 13 with fail
        refine wp_region_lit ?_
        refine wpList_val (.pointer (some ⟨b5, 3, none⟩)) (by rfl) (by go_simp) ?_
        (try simp only [Act.put, List.getElem_toArray, List.getElem_cons_succ, List.getElem_cons_zero, List.setIfInBounds_toArray, List.set_cons_zero, List.set_cons_succ])
        refine wpList_val (.slice (some ⟨g1, 0, none⟩) (rolesK self R C l k).length c1) (by rfl) (by have q1 : wr.cell? ⟨b5, 3, none⟩ = some (.slice (some ⟨g1, 0, none⟩) (rolesK self R C l k).length c1) := (C5.out _ KN.out.below).cell 3; go_simp) ?_
        (try simp only [Act.put, List.getElem_toArray, List.getElem_cons_succ, List.getElem_cons_zero, List.setIfInBounds_toArray, List.set_cons_zero, List.set_cons_succ])
        refine wpList_val (.pointer (some ⟨b5, 2, none⟩)) (by rfl) (by go_simp) ?_
        (try simp only [Act.put, List.getElem_toArray, List.getElem_cons_succ, List.getElem_cons_zero, List.setIfInBounds_toArray, List.set_cons_zero, List.set_cons_succ])
        refine wpList_val (.int .i64 ((q : Int) + 1)) (by rfl) (by have q1 : wr.cell? ⟨b5, 2, none⟩ = some (.int .i64 ((q : Int) + 1)) := (C5.out _ KN.out.below).cell 2; go_simp) ?_
        (try simp only [Act.put, List.getElem_toArray, List.getElem_cons_succ, List.getElem_cons_zero, List.setIfInBounds_toArray, List.set_cons_zero, List.set_cons_succ])
        refine wpList_val (.int .i64 (q : Nat)) (by rfl) (by go_simp; try exact wrap_i64r (by omega) (by omega)) ?_
        (try simp only [Act.put, List.getElem_toArray, List.getElem_cons_succ, List.getElem_cons_zero, List.setIfInBounds_toArray, List.set_cons_zero, List.set_cons_succ])
        refine wpList_val (.pointer (some ⟨g1, q * 1, none⟩)) (by rfl) (by go_simp) ?_
        (try simp only [Act.put, List.getElem_toArray, List.getElem_cons_succ, List.getElem_cons_zero, List.setIfInBounds_toArray, List.set_cons_zero, List.set_cons_succ])
        refine wpList_op (by rfl) (fun K hK => wp_store_cell 3 _ _ rfl ⟨g1, q * 1, none⟩ (.int .i64 3) rfl rfl (by have q1 := Q1.out; have q2 := Q2.out; rw [Nat.mul_one] at q1 q2; go_simp) hK) ?_
        have HZ := Lib.hid (show ChW w R C ((q : Int) + 1) b4 b5 (.slice (some ⟨g1, 0, none⟩) (rolesK self R C l k).length c1) v2 ((rolesK self R C l k).set q 3) (tellsK self R C l k) (wr.setCell ⟨g1, q * 1, none⟩ (.int .i64 3)) from
          ⟨HC.out.below.setCell hg1 _, HC.out.k4.other (a := ⟨g1, q * 1, none⟩) (fun e => HC.out.a14 (by rw [← e]; rfl)) _, HC.out.k5.other (a := ⟨g1, q * 1, none⟩) (fun e => HC.out.a15 (by rw [← e]; rfl)) _, HC.out.n4, HC.out.n5, HC.out.n45, ST.out, HC.out.o2.setCell (fun e => HC.out.a12 g1 rfl e) _, HC.out.a14, HC.out.a15, HC.out.a24, HC.out.a25, HC.out.a12⟩)
        generalize (wr.setCell ⟨g1, q * 1, none⟩ (.int .i64 3)) = wz at HZ ⊢
        (try simp only [Act.put, List.getElem_toArray, List.getElem_cons_succ, List.getElem_cons_zero, List.setIfInBounds_toArray, List.set_cons_zero, List.set_cons_succ])
        refine wpList_nil ?_
        go_wp2_with fail
        exact HKY.out _ _ (ch14 R C ((q : Int) + 1) b4 b5 _ v2 (rolesE self R C ((q : Int) + 1) l k) _ _ _ _ _ _ _ _ _ _ _ _ _ _ _ _ _ _ _ _ _ _ _ _ _ _ _ _ _ _ _ _ _ _ _ _ _ _ _ _ _ _ _ _ _ _ _ _ _ _ _ _ _ _ _ _ _ _ _ _ _ _ _ _ _ _ _ _ _ _ _ _ _ _ _ w wz (by rw [E1]; exact HZ.out))
    case pos =>
      obtain ⟨x, hx⟩ : ∃ x, l[k]? = some x := ⟨_, List.getElem?_eq_getElem (by rw [HL.out]; omega)⟩
      have o1 := HO.out
      rw [← HL.out] at o1
      obtain ⟨g, rfl, -, -, hr⟩ := Own.elem rp_len o1 hx
      have RX := Lib.hid (show ∀ W, Below wr.heap.size wr W → W.rangeAt g (k * 8) (rpC x) from fun W hW => hr W (HC.out.below.trans (hW.mono HC.out.below.size)))
      have HX := Lib.hid hx
      clear o1 hr hx
      have hkm : k ≤ m := by omega
      have C5 := Lib.hid (show ∀ W, Below wr.heap.size wr W → Blk W b5 (chA R C P v1 v2) 34 from fun W hW => HC.out.k5.below hW HC.out.k5.lt)
      have K0 := Lib.hid (Kb.nil wr)
      go_upto_region 6 with fail
      refine wp_region_lit ?_
      refine wpList_val (.bool true) (by rfl) (by have q := hlt; go_simp) ?_
      (try simp only [Act.put, List.getElem_toArray, List.getElem_cons_succ, List.getElem_cons_zero, List.setIfInBounds_toArray, List.set_cons_zero, List.set_cons_succ])
      refine wpList_nil ?_
      go_upto_region 7 with fail
      refine wp_region_lit ?_
      refine wpList_val (.pointer (some ⟨g, k * 8, none⟩)) (by rfl) (by go_simp) ?_
      (try simp only [Act.put, List.getElem_toArray, List.getElem_cons_succ, List.getElem_cons_zero, List.setIfInBounds_toArray, List.set_cons_zero, List.set_cons_succ])
      refine wpList_val (.agg (rpA x)) (by rfl) (run_loadRange 47 _ rfl g (k * 8) rfl (rpA x) _ (RX.out _ K0.out.below) Try.underlying47 rfl size47) ?_
      (try simp only [Act.put, List.getElem_toArray, List.getElem_cons_succ, List.getElem_cons_zero, List.setIfInBounds_toArray, List.set_cons_zero, List.set_cons_succ])
      refine kb_alloc K0.out 47 (nil8) rfl z47 (by rfl) ?_
      intro b1 w1 hb1 hk
      have K1 := Lib.hid (show Kb wr [(b1, nil8, 47)] w1 from hk)
      clear hk hb1
      (try simp only [Act.put, List.getElem_toArray, List.getElem_cons_succ, List.getElem_cons_zero, List.setIfInBounds_toArray, List.set_cons_zero, List.set_cons_succ])
      refine kb_row K1.out 0 rfl 47 _ _ (rpA x) rfl rfl rfl rfl (size47) (by rfl) (by kernel_rfl) ?_
      intro w2 hk
      have K2 := Lib.hid (show Kb wr [(b1, rpA x, 47)] w2 from hk)
      clear hk
      (try simp only [Act.put, List.getElem_toArray, List.getElem_cons_succ, List.getElem_cons_zero, List.setIfInBounds_toArray, List.set_cons_zero, List.set_cons_succ])
      refine wpList_nil ?_
      go_upto_region 8 with fail
      refine wp_region_lit ?_
      refine wpList_val (.pointer (some ⟨b5, 0, none⟩)) (by rfl) (by go_simp) ?_
      (try simp only [Act.put, List.getElem_toArray, List.getElem_cons_succ, List.getElem_cons_zero, List.setIfInBounds_toArray, List.set_cons_zero, List.set_cons_succ])
      refine wpList_val (.int .u64 (R : Nat)) (by rfl) (by have q : w2.cell? ⟨b5, 0, none⟩ = some (.int .u64 (R : Nat)) := (C5.out _ K2.out.below).cell 0; go_simp) ?_
      (try simp only [Act.put, List.getElem_toArray, List.getElem_cons_succ, List.getElem_cons_zero, List.setIfInBounds_toArray, List.set_cons_zero, List.set_cons_succ])
      refine wpList_val (.pointer (some ⟨b5, 1, none⟩)) (by rfl) (by go_simp) ?_
      (try simp only [Act.put, List.getElem_toArray, List.getElem_cons_succ, List.getElem_cons_zero, List.setIfInBounds_toArray, List.set_cons_zero, List.set_cons_succ])
      refine wpList_val (.int .u32 (C : Nat)) (by rfl) (by have q : w2.cell? ⟨b5, 1, none⟩ = some (.int .u32 (C : Nat)) := (C5.out _ K2.out.below).cell 1; go_simp) ?_
      (try simp only [Act.put, List.getElem_toArray, List.getElem_cons_succ, List.getElem_cons_zero, List.setIfInBounds_toArray, List.set_cons_zero, List.set_cons_succ])
      refine wpList_val (.int .u64 (self : Nat)) (by rfl) (by go_simp) ?_
      (try simp only [Act.put, List.getElem_toArray, List.getElem_cons_succ, List.getElem_cons_zero, List.setIfInBounds_toArray, List.set_cons_zero, List.set_cons_succ])
      refine wpList_val (.pointer (some ⟨b1, 7, none⟩)) (by rfl) (by go_simp) ?_
      (try simp only [Act.put, List.getElem_toArray, List.getElem_cons_succ, List.getElem_cons_zero, List.setIfInBounds_toArray, List.set_cons_zero, List.set_cons_succ])
      refine wpList_val (.int .u16 (x.i : Nat)) (by rfl) (by have q : w2.cell? ⟨b1, 7, none⟩ = some (.int .u16 (x.i : Nat)) := K2.out.cell (i := 0) rfl (by rfl); go_simp) ?_
      (try simp only [Act.put, List.getElem_toArray, List.getElem_cons_succ, List.getElem_cons_zero, List.setIfInBounds_toArray, List.set_cons_zero, List.set_cons_succ])
      refine wpList_val (.agg (vcA (tellsV self R C x))) (by rfl) (run_build_of 44 [(0, .tmp 43), (1, .tmp 45), (2, .tmp 46), (3, .tmp 48)] rfl _ (vcA (tellsV self R C x)) rfl (by kernel_rfl)) ?_
      (try simp only [Act.put, List.getElem_toArray, List.getElem_cons_succ, List.getElem_cons_zero, List.setIfInBounds_toArray, List.set_cons_zero, List.set_cons_succ])
      refine kb_alloc K2.out 44 (nil4) rfl z44 (by rfl) ?_
      intro b3 w3 hb3 hk
      have K3 := Lib.hid (show Kb wr [(b1, rpA x, 47), (b3, nil4, 44)] w3 from hk)
      clear hk hb3
      (try simp only [Act.put, List.getElem_toArray, List.getElem_cons_succ, List.getElem_cons_zero, List.setIfInBounds_toArray, List.set_cons_zero, List.set_cons_succ])
      refine kb_row K3.out 1 rfl 44 _ _ (vcA (tellsV self R C x)) rfl rfl rfl rfl (sizeV) (by rfl) (by kernel_rfl) ?_
      intro w4 hk
      have K4 := Lib.hid (show Kb wr [(b1, rpA x, 47), (b3, vcA (tellsV self R C x), 44)] w4 from hk)
      clear hk
      (try simp only [Act.put, List.getElem_toArray, List.getElem_cons_succ, List.getElem_cons_zero, List.setIfInBounds_toArray, List.set_cons_zero, List.set_cons_succ])
      refine wpList_nil ?_
      have H8 := Lib.hid (HC.out.next K4.out.below)
      have BP := Lib.hid (K4.out.at (i := 0) rfl)
      have BT := Lib.hid (K4.out.at (i := 1) rfl)
      have NP := Lib.hid (K4.out.new (b1, rpA x, 47) (by simp))
      have NT := Lib.hid (K4.out.new (b3, vcA (tellsV self R C x), 44) (by simp))
      have KF := Lib.hid (show ∀ W, w4.grownBy W v1.ownBlock → W.cell? ⟨b5, 3, none⟩ = some v1 ∧ Blk W b1 (rpA x) 47 ∧ Blk W b3 (vcA (tellsV self R C x)) 44 from fun W hW => by
        refine ⟨(H8.out.k5.grown hW (fun e => H8.out.a15 e.symm)).cell 3, BP.out.grown hW (fun e => ?_), BT.out.grown hW (fun e => ?_)⟩
        · have := (HC.out.o1.lt b1 e.symm).2
          have := NP.out
          simp only at this
          omega
        · have := (HC.out.o1.lt b3 e.symm).2
          have := NT.out
          simp only at this
          omega)
      have RL := Lib.hid (show rolesK self R C l k ++ [roleN self (tellsV self R C x) x] = rolesK self R C l (k + 1) from tk_step (fun x => roleN self (tellsV self R C x) x) HX.out)
      have TL := Lib.hid (show tellsK self R C l k ++ [tellsV self R C x] = tellsK self R C l (k + 1) from tk_step (tellsV self R C) HX.out)
      have L1 := Lib.hid (show (rolesK self R C l k).length = k from tk_len _ (by rw [HL.out]; omega))
      have L2 := Lib.hid (show (tellsK self R C l k).length = k from tk_len _ (by rw [HL.out]; omega))
      go_upto_region 9 with fail
      refine wp_region_lastW 9 (I := fun L ac w' => ∃ (v56 v57 : Value), ac = ChF self n m k g R C x v1 b4 b5 b1 b3 f2 f3 f6 f7 f10 f11 f12 f13 f14 f15 f16 f17 f18 f19 f20 f21 f22 f23 f24 f25 f26 f27 f28 f29 f30 f31 f32 f33 f34 f35 u50 u51 u52 u53 u54 u55 u56 u57 u58 u59 u60 u61 u62 u63 u64 u65 f66 f67 f68 f69 f70 f71 f72 f73 f74 f75 L v56 v57 ∧ ApW w4 w.heap.size 3 1 inC v1 (rolesK self R C l k) (roleN self (tellsV self R C x) x) (L 6) (L 7) v56 v57 w') (by kernel_rfl) (by kernel_rfl) (by kernel_rfl) ⟨u56, u57, by kernel_rfl, ApW.start H8.out.o1 H8.out.below.size⟩ ?_ ?_
      · intro i hi Lx ac w' hI hL haft
        obtain ⟨v56, v57, rfl, hw⟩ := hI
        match i, hi with
        | 0, _ =>
          have e5 : (ChF self n m k g R C x v1 b4 b5 b1 b3 f2 f3 f6 f7 f10 f11 f12 f13 f14 f15 f16 f17 f18 f19 f20 f21 f22 f23 f24 f25 f26 f27 f28 f29 f30 f31 f32 f33 f34 f35 u50 u51 u52 u53 u54 u55 u56 u57 u58 u59 u60 u61 u62 u63 u64 u65 f66 f67 f68 f69 f70 f71 f72 f73 f74 f75 Lx v56 v57).eval (.tmp 5) = .pointer (some ⟨b5, 0, none⟩) := by kernel_rfl
          have g5 : (ChF self n m k g R C x v1 b4 b5 b1 b3 f2 f3 f6 f7 f10 f11 f12 f13 f14 f15 f16 f17 f18 f19 f20 f21 f22 f23 f24 f25 f26 f27 f28 f29 f30 f31 f32 f33 f34 f35 u50 u51 u52 u53 u54 u55 u56 u57 u58 u59 u60 u61 u62 u63 u64 u65 f66 f67 f68 f69 f70 f71 f72 f73 f74 f75 Lx v56 v57).tmps[5]?.getD undef = .pointer (some ⟨b5, 0, none⟩) := by kernel_rfl
          exact i_val rfl (.pointer (some ⟨b5, 3, none⟩)) w' (by rfl) (by go_simp) ⟨_, _, by kernel_rfl, hw⟩
        | 1, _ =>
          have h0 := haft 0 (by decide)
          have e50 : (ChF self n m k g R C x v1 b4 b5 b1 b3 f2 f3 f6 f7 f10 f11 f12 f13 f14 f15 f16 f17 f18 f19 f20 f21 f22 f23 f24 f25 f26 f27 f28 f29 f30 f31 f32 f33 f34 f35 u50 u51 u52 u53 u54 u55 u56 u57 u58 u59 u60 u61 u62 u63 u64 u65 f66 f67 f68 f69 f70 f71 f72 f73 f74 f75 Lx v56 v57).eval (.tmp 50) = .pointer (some ⟨b5, 3, none⟩) := by show (bif Lx 0 then _ else _) = _; rw [h0]; rfl
          have g50 : (ChF self n m k g R C x v1 b4 b5 b1 b3 f2 f3 f6 f7 f10 f11 f12 f13 f14 f15 f16 f17 f18 f19 f20 f21 f22 f23 f24 f25 f26 f27 f28 f29 f30 f31 f32 f33 f34 f35 u50 u51 u52 u53 u54 u55 u56 u57 u58 u59 u60 u61 u62 u63 u64 u65 f66 f67 f68 f69 f70 f71 f72 f73 f74 f75 Lx v56 v57).tmps[50]?.getD undef = .pointer (some ⟨b5, 3, none⟩) := by show (bif Lx 0 then _ else _) = _; rw [h0]; rfl
          have q := (KF.out w' hw.g).1
          exact i_val rfl (v1) w' (by rfl) (by go_simp) ⟨_, _, by kernel_rfl, hw⟩
        | 2, _ =>
          have e8 : (ChF self n m k g R C x v1 b4 b5 b1 b3 f2 f3 f6 f7 f10 f11 f12 f13 f14 f15 f16 f17 f18 f19 f20 f21 f22 f23 f24 f25 f26 f27 f28 f29 f30 f31 f32 f33 f34 f35 u50 u51 u52 u53 u54 u55 u56 u57 u58 u59 u60 u61 u62 u63 u64 u65 f66 f67 f68 f69 f70 f71 f72 f73 f74 f75 Lx v56 v57).eval (.tmp 8) = .pointer (some ⟨b1, 0, none⟩) := by kernel_rfl
          have g8 : (ChF self n m k g R C x v1 b4 b5 b1 b3 f2 f3 f6 f7 f10 f11 f12 f13 f14 f15 f16 f17 f18 f19 f20 f21 f22 f23 f24 f25 f26 f27 f28 f29 f30 f31 f32 f33 f34 f35 u50 u51 u52 u53 u54 u55 u56 u57 u58 u59 u60 u61 u62 u63 u64 u65 f66 f67 f68 f69 f70 f71 f72 f73 f74 f75 Lx v56 v57).tmps[8]?.getD undef = .pointer (some ⟨b1, 0, none⟩) := by kernel_rfl
          exact i_val rfl (.agg (rpA x)) w' (by rfl) (run_loadVar_of 47 _ rfl b1 e8 47 (rpA x) _ (KF.out w' hw.g).2.1 Try.underlying47 rfl size47) ⟨_, _, by kernel_rfl, hw⟩
        | 3, _ =>
          have e0 : (ChF self n m k g R C x v1 b4 b5 b1 b3 f2 f3 f6 f7 f10 f11 f12 f13 f14 f15 f16 f17 f18 f19 f20 f21 f22 f23 f24 f25 f26 f27 f28 f29 f30 f31 f32 f33 f34 f35 u50 u51 u52 u53 u54 u55 u56 u57 u58 u59 u60 u61 u62 u63 u64 u65 f66 f67 f68 f69 f70 f71 f72 f73 f74 f75 Lx v56 v57).eval (.tmp 0) = .int .u64 (self : Nat) := by kernel_rfl
          have g0 : (ChF self n m k g R C x v1 b4 b5 b1 b3 f2 f3 f6 f7 f10 f11 f12 f13 f14 f15 f16 f17 f18 f19 f20 f21 f22 f23 f24 f25 f26 f27 f28 f29 f30 f31 f32 f33 f34 f35 u50 u51 u52 u53 u54 u55 u56 u57 u58 u59 u60 u61 u62 u63 u64 u65 f66 f67 f68 f69 f70 f71 f72 f73 f74 f75 Lx v56 v57).tmps[0]?.getD undef = .int .u64 (self : Nat) := by kernel_rfl
          exact i_val rfl (.int .u64 (self : Nat)) w' (by rfl) (by go_simp) ⟨_, _, by kernel_rfl, hw⟩
        | 4, _ =>
          have e9 : (ChF self n m k g R C x v1 b4 b5 b1 b3 f2 f3 f6 f7 f10 f11 f12 f13 f14 f15 f16 f17 f18 f19 f20 f21 f22 f23 f24 f25 f26 f27 f28 f29 f30 f31 f32 f33 f34 f35 u50 u51 u52 u53 u54 u55 u56 u57 u58 u59 u60 u61 u62 u63 u64 u65 f66 f67 f68 f69 f70 f71 f72 f73 f74 f75 Lx v56 v57).eval (.tmp 9) = .pointer (some ⟨b3, 0, none⟩) := by kernel_rfl
          have g9 : (ChF self n m k g R C x v1 b4 b5 b1 b3 f2 f3 f6 f7 f10 f11 f12 f13 f14 f15 f16 f17 f18 f19 f20 f21 f22 f23 f24 f25 f26 f27 f28 f29 f30 f31 f32 f33 f34 f35 u50 u51 u52 u53 u54 u55 u56 u57 u58 u59 u60 u61 u62 u63 u64 u65 f66 f67 f68 f69 f70 f71 f72 f73 f74 f75 Lx v56 v57).tmps[9]?.getD undef = .pointer (some ⟨b3, 0, none⟩) := by kernel_rfl
          exact i_val rfl (.agg (vcA (tellsV self R C x))) w' (by rfl) (run_loadVar_of 44 _ rfl b3 e9 44 (vcA (tellsV self R C x)) _ (KF.out w' hw.g).2.2 Try.underlying44 rfl sizeV) ⟨_, _, by kernel_rfl, hw⟩
        | 5, _ =>
          have h2 := haft 2 (by decide)
          have e52 : (ChF self n m k g R C x v1 b4 b5 b1 b3 f2 f3 f6 f7 f10 f11 f12 f13 f14 f15 f16 f17 f18 f19 f20 f21 f22 f23 f24 f25 f26 f27 f28 f29 f30 f31 f32 f33 f34 f35 u50 u51 u52 u53 u54 u55 u56 u57 u58 u59 u60 u61 u62 u63 u64 u65 f66 f67 f68 f69 f70 f71 f72 f73 f74 f75 Lx v56 v57).eval (.tmp 52) = .agg (rpA x) := by show (bif Lx 2 then _ else _) = _; rw [h2]; rfl
          have g52 : (ChF self n m k g R C x v1 b4 b5 b1 b3 f2 f3 f6 f7 f10 f11 f12 f13 f14 f15 f16 f17 f18 f19 f20 f21 f22 f23 f24 f25 f26 f27 f28 f29 f30 f31 f32 f33 f34 f35 u50 u51 u52 u53 u54 u55 u56 u57 u58 u59 u60 u61 u62 u63 u64 u65 f66 f67 f68 f69 f70 f71 f72 f73 f74 f75 Lx v56 v57).tmps[52]?.getD undef = .agg (rpA x) := by show (bif Lx 2 then _ else _) = _; rw [h2]; rfl
          have h3 := haft 3 (by decide)
          have e53 : (ChF self n m k g R C x v1 b4 b5 b1 b3 f2 f3 f6 f7 f10 f11 f12 f13 f14 f15 f16 f17 f18 f19 f20 f21 f22 f23 f24 f25 f26 f27 f28 f29 f30 f31 f32 f33 f34 f35 u50 u51 u52 u53 u54 u55 u56 u57 u58 u59 u60 u61 u62 u63 u64 u65 f66 f67 f68 f69 f70 f71 f72 f73 f74 f75 Lx v56 v57).eval (.tmp 53) = .int .u64 (self : Nat) := by show (bif Lx 3 then _ else _) = _; rw [h3]; rfl
          have g53 : (ChF self n m k g R C x v1 b4 b5 b1 b3 f2 f3 f6 f7 f10 f11 f12 f13 f14 f15 f16 f17 f18 f19 f20 f21 f22 f23 f24 f25 f26 f27 f28 f29 f30 f31 f32 f33 f34 f35 u50 u51 u52 u53 u54 u55 u56 u57 u58 u59 u60 u61 u62 u63 u64 u65 f66 f67 f68 f69 f70 f71 f72 f73 f74 f75 Lx v56 v57).tmps[53]?.getD undef = .int .u64 (self : Nat) := by show (bif Lx 3 then _ else _) = _; rw [h3]; rfl
          have h4 := haft 4 (by decide)
          have e54 : (ChF self n m k g R C x v1 b4 b5 b1 b3 f2 f3 f6 f7 f10 f11 f12 f13 f14 f15 f16 f17 f18 f19 f20 f21 f22 f23 f24 f25 f26 f27 f28 f29 f30 f31 f32 f33 f34 f35 u50 u51 u52 u53 u54 u55 u56 u57 u58 u59 u60 u61 u62 u63 u64 u65 f66 f67 f68 f69 f70 f71 f72 f73 f74 f75 Lx v56 v57).eval (.tmp 54) = .agg (vcA (tellsV self R C x)) := by show (bif Lx 4 then _ else _) = _; rw [h4]; rfl
          have g54 : (ChF self n m k g R C x v1 b4 b5 b1 b3 f2 f3 f6 f7 f10 f11 f12 f13 f14 f15 f16 f17 f18 f19 f20 f21 f22 f23 f24 f25 f26 f27 f28 f29 f30 f31 f32 f33 f34 f35 u50 u51 u52 u53 u54 u55 u56 u57 u58 u59 u60 u61 u62 u63 u64 u65 f66 f67 f68 f69 f70 f71 f72 f73 f74 f75 Lx v56 v57).tmps[54]?.getD undef = .agg (vcA (tellsV self R C x)) := by show (bif Lx 4 then _ else _) = _; rw [h4]; rfl
          exact i_call rfl (.int .i64 (roleN self (tellsV self R C x) x)) 22 #[.agg (rpA x), .int .u64 (self : Nat), .agg (vcA (tellsV self R C x))] (fun w2 => Below w'.heap.size w' w2) (by rfl) (by go_simp) (role_any self (tellsV self R C x) x w') (fun w2 hb => ⟨_, _, by kernel_rfl, hw.next hb⟩)
        | 6, _ =>
          have h5 := haft 5 (by decide)
          have e55 : (ChF self n m k g R C x v1 b4 b5 b1 b3 f2 f3 f6 f7 f10 f11 f12 f13 f14 f15 f16 f17 f18 f19 f20 f21 f22 f23 f24 f25 f26 f27 f28 f29 f30 f31 f32 f33 f34 f35 u50 u51 u52 u53 u54 u55 u56 u57 u58 u59 u60 u61 u62 u63 u64 u65 f66 f67 f68 f69 f70 f71 f72 f73 f74 f75 Lx v56 v57).eval (.tmp 55) = .int .i64 (roleN self (tellsV self R C x) x) := by show (bif Lx 5 then _ else _) = _; rw [h5]; rfl
          have g55 : (ChF self n m k g R C x v1 b4 b5 b1 b3 f2 f3 f6 f7 f10 f11 f12 f13 f14 f15 f16 f17 f18 f19 f20 f21 f22 f23 f24 f25 f26 f27 f28 f29 f30 f31 f32 f33 f34 f35 u50 u51 u52 u53 u54 u55 u56 u57 u58 u59 u60 u61 u62 u63 u64 u65 f66 f67 f68 f69 f70 f71 f72 f73 f74 f75 Lx v56 v57).tmps[55]?.getD undef = .int .i64 (roleN self (tellsV self R C x) x) := by show (bif Lx 5 then _ else _) = _; rw [h5]; rfl
          exact i_val rfl (.slice (some ⟨w'.heap.size, 0, none⟩) 1 1) (w'.alloc (.cells #[.int .i64 (roleN self (tellsV self R C x) x)] 3)) (by rfl) (run_bs1 31 (.tmp 55) rfl (.int .i64 (roleN self (tellsV self R C x) x)) _ e55 (one_in _ w')) ⟨(.slice (some ⟨w'.heap.size, 0, none⟩) 1 1), v57, by kernel_rfl, hw.made inT hL _ rfl⟩
        | 7, _ =>
          have h1 := haft 1 (by decide)
          have e51 : (ChF self n m k g R C x v1 b4 b5 b1 b3 f2 f3 f6 f7 f10 f11 f12 f13 f14 f15 f16 f17 f18 f19 f20 f21 f22 f23 f24 f25 f26 f27 f28 f29 f30 f31 f32 f33 f34 f35 u50 u51 u52 u53 u54 u55 u56 u57 u58 u59 u60 u61 u62 u63 u64 u65 f66 f67 f68 f69 f70 f71 f72 f73 f74 f75 Lx v56 v57).eval (.tmp 51) = v1 := by show (bif Lx 1 then _ else _) = _; rw [h1]; rfl
          have g51 : (ChF self n m k g R C x v1 b4 b5 b1 b3 f2 f3 f6 f7 f10 f11 f12 f13 f14 f15 f16 f17 f18 f19 f20 f21 f22 f23 f24 f25 f26 f27 f28 f29 f30 f31 f32 f33 f34 f35 u50 u51 u52 u53 u54 u55 u56 u57 u58 u59 u60 u61 u62 u63 u64 u65 f66 f67 f68 f69 f70 f71 f72 f73 f74 f75 Lx v56 v57).tmps[51]?.getD undef = v1 := by show (bif Lx 1 then _ else _) = _; rw [h1]; rfl
          have e56 : (ChF self n m k g R C x v1 b4 b5 b1 b3 f2 f3 f6 f7 f10 f11 f12 f13 f14 f15 f16 f17 f18 f19 f20 f21 f22 f23 f24 f25 f26 f27 f28 f29 f30 f31 f32 f33 f34 f35 u50 u51 u52 u53 u54 u55 u56 u57 u58 u59 u60 u61 u62 u63 u64 u65 f66 f67 f68 f69 f70 f71 f72 f73 f74 f75 Lx v56 v57).eval (.tmp 56) = v56 := by kernel_rfl
          obtain ⟨u, w2, hrun, hw2⟩ := hw.app inT (haft 6 (by decide)) hL (by rw [L1.out]; omega) 31
          have hmk := haft 6 (by decide)
          exact i_wp rfl (by rfl) (wp_append_lst _ _ 31 rfl u w2 (by rw [e51, e56]; exact hrun) ⟨v56, u, by kernel_rfl, by rw [show upd Lx 7 6 = true from hmk]; exact hw2⟩)
        | 8, _ =>
          have e5 : (ChF self n m k g R C x v1 b4 b5 b1 b3 f2 f3 f6 f7 f10 f11 f12 f13 f14 f15 f16 f17 f18 f19 f20 f21 f22 f23 f24 f25 f26 f27 f28 f29 f30 f31 f32 f33 f34 f35 u50 u51 u52 u53 u54 u55 u56 u57 u58 u59 u60 u61 u62 u63 u64 u65 f66 f67 f68 f69 f70 f71 f72 f73 f74 f75 Lx v56 v57).eval (.tmp 5) = .pointer (some ⟨b5, 0, none⟩) := by kernel_rfl
          have g5 : (ChF self n m k g R C x v1 b4 b5 b1 b3 f2 f3 f6 f7 f10 f11 f12 f13 f14 f15 f16 f17 f18 f19 f20 f21 f22 f23 f24 f25 f26 f27 f28 f29 f30 f31 f32 f33 f34 f35 u50 u51 u52 u53 u54 u55 u56 u57 u58 u59 u60 u61 u62 u63 u64 u65 f66 f67 f68 f69 f70 f71 f72 f73 f74 f75 Lx v56 v57).tmps[5]?.getD undef = .pointer (some ⟨b5, 0, none⟩) := by kernel_rfl
          exact i_val rfl (.pointer (some ⟨b5, 3, none⟩)) w' (by rfl) (by go_simp) ⟨_, _, by kernel_rfl, hw⟩
        | q + 9, h =>
          exfalso
          have h2 : q + 9 < 9 := h
          omega
      intro Lx ac w' hI hall
      obtain ⟨v56, v57, rfl, hw⟩ := hI
      have hfr : ChF self n m k g R C x v1 b4 b5 b1 b3 f2 f3 f6 f7 f10 f11 f12 f13 f14 f15 f16 f17 f18 f19 f20 f21 f22 f23 f24 f25 f26 f27 f28 f29 f30 f31 f32 f33 f34 f35 u50 u51 u52 u53 u54 u55 u56 u57 u58 u59 u60 u61 u62 u63 u64 u65 f66 f67 f68 f69 f70 f71 f72 f73 f74 f75 Lx v56 v57 = { tmps := #[.int .u64 (self : Nat), .slice (some ⟨g, 0, none⟩) n m, f2, f3, .pointer (some ⟨b4, 0, none⟩), .pointer (some ⟨b5, 0, none⟩), f6, f7, .pointer (some ⟨b1, 0, none⟩), .pointer (some ⟨b3, 0, none⟩), f10, f11, f12, f13, f14, f15, f16, f17, f18, f19, f20, f21, f22, f23, f24, f25, f26, f27, f28, f29, f30, f31, f32, f33, f34, f35, .slice (some ⟨g, 0, none⟩) n m, .int .i64 (n : Nat), .int .i64 (k : Nat), .bool true, .pointer (some ⟨g, k * 8, none⟩), .agg (rpA x), .pointer (some ⟨b5, 0, none⟩), .int .u64 (R : Nat), .pointer (some ⟨b5, 1, none⟩), .int .u32 (C : Nat), .int .u64 (self : Nat), .pointer (some ⟨b1, 7, none⟩), .int .u16 (x.i : Nat), .agg (vcA (tellsV self R C x)), .pointer (some ⟨b5, 3, none⟩), v1, .agg (rpA x), .int .u64 (self : Nat), .agg (vcA (tellsV self R C x)), .int .i64 (roleN self (tellsV self R C x) x), v56, v57, .pointer (some ⟨b5, 3, none⟩), u59, u60, u61, u62, u63, u64, u65, f66, f67, f68, f69, f70, f71, f72, f73, f74, f75], defers := [] } := by unfold ChF; simp only [hall 0 (by decide), hall 1 (by decide), hall 2 (by decide), hall 3 (by decide), hall 4 (by decide), hall 5 (by decide), hall 8 (by decide), cond_true]
      rw [hfr]
      clear hfr
      rw [hall 6 (by decide), hall 7 (by decide)] at hw
      have OA := hw.pr rfl
      rw [RL.out] at OA
      obtain ⟨q', r', eu, -⟩ := OA.shape
      subst eu
      have Q1 : w'.cell? ⟨b5, 3, none⟩ = some v1 := (KF.out w' hw.g).1
      have Q2 : w'.frozen? ⟨b5, 3, none⟩ = false := (H8.out.k5.grown hw.g (fun e => H8.out.a15 e.symm)).free 3
      have H9 := Lib.hid (H8.out.put1 hw.g OA (hw.pb rfl))
      have B9 := Lib.hid (show Blk (w'.setCell ⟨b5, 3, none⟩ (.slice q' (rolesK self R C l (k + 1)).length r')) b3 (vcA (tellsV self R C x)) 44 from ((KF.out w' hw.g).2.2).other (a := ⟨b5, 3, none⟩) (fun e => by have := NT.out; have := HC.out.k5.lt; simp only at *; omega) _)
      clear hw hall OA
      refine i_wp rfl (by rfl) (wp_store_cell 31 _ _ rfl ⟨b5, 3, none⟩ (.slice q' (rolesK self R C l (k + 1)).length r') rfl rfl (by go_simp) ?_)
      generalize (w'.setCell ⟨b5, 3, none⟩ (.slice q' (rolesK self R C l (k + 1)).length r')) = w9 at H9 B9 ⊢
      (try simp only [Act.put, List.getElem_toArray, List.getElem_cons_succ, List.getElem_cons_zero, List.setIfInBounds_toArray, List.set_cons_zero, List.set_cons_succ])
      clear Q1 Q2
      go_upto_region 10 with fail
      refine wp_region_lit ?_
      refine wpList_val (.pointer (some ⟨b5, 4, none⟩)) (by rfl) (by go_simp) ?_
      (try simp only [Act.put, List.getElem_toArray, List.getElem_cons_succ, List.getElem_cons_zero, List.setIfInBounds_toArray, List.set_cons_zero, List.set_cons_succ])
      refine wpList_val v2 (by rfl) (by have q : w9.cell? ⟨b5, 4, none⟩ = some v2 := H9.out.k5.cell 4; go_simp) ?_
      (try simp only [Act.put, List.getElem_toArray, List.getElem_cons_succ, List.getElem_cons_zero, List.setIfInBounds_toArray, List.set_cons_zero, List.set_cons_succ])
      refine wpList_val (.agg (vcA (tellsV self R C x))) (by rfl) (run_loadVar_of 44 _ rfl b3 rfl 44 (vcA (tellsV self R C x)) _ B9.out Try.underlying44 rfl sizeV) ?_
      (try simp only [Act.put, List.getElem_toArray, List.getElem_cons_succ, List.getElem_cons_zero, List.setIfInBounds_toArray, List.set_cons_zero, List.set_cons_succ])
      have A0 := Lib.hid ((ApW.start0 (x := tellsV self R C x) (vS := undef) (vR := undef) H9.out.o2 H9.out.below.size).made vcT rfl (vcA (tellsV self R C x)) rfl)
      refine wpList_made (.slice (some ⟨w9.heap.size, 0, none⟩) 1 1) (by rfl) (run_bs1 32 (.tmp 61) rfl (vcV (tellsV self R C x)) _ rfl (one_vc (tellsV self R C x) w9)) ?_
      (try simp only [Act.put, List.getElem_toArray, List.getElem_cons_succ, List.getElem_cons_zero, List.setIfInBounds_toArray, List.set_cons_zero, List.set_cons_succ])
      obtain ⟨u, wz, hrun, hz⟩ := A0.out.app vcT rfl rfl (by rw [L2.out]; omega) 32
      refine wpList_op (by rfl) (fun K hK => wp_append_lst _ _ 32 rfl u wz hrun hK) ?_
      (try simp only [Act.put, List.getElem_toArray, List.getElem_cons_succ, List.getElem_cons_zero, List.setIfInBounds_toArray, List.set_cons_zero, List.set_cons_succ])
      have OZ := hz.pr rfl
      rw [TL.out] at OZ
      obtain ⟨q2, r2, eu, -⟩ := OZ.shape
      subst eu
      have Q1 : wz.cell? ⟨b5, 4, none⟩ = some v2 := (H9.out.k5.grown hz.g (fun e => H9.out.a25 e.symm)).cell 4
      have Q2 : wz.frozen? ⟨b5, 4, none⟩ = false := (H9.out.k5.grown hz.g (fun e => H9.out.a25 e.symm)).free 4
      have HZ := Lib.hid (H9.out.put2 hz.g OZ (hz.pb rfl))
      clear hrun hz OZ
      refine wpList_val (.pointer (some ⟨b5, 4, none⟩)) (by rfl) (by go_simp) ?_
      (try simp only [Act.put, List.getElem_toArray, List.getElem_cons_succ, List.getElem_cons_zero, List.setIfInBounds_toArray, List.set_cons_zero, List.set_cons_succ])
      refine wpList_op (by rfl) (fun K hK => wp_store_cell 32 _ _ rfl ⟨b5, 4, none⟩ (.slice q2 (tellsK self R C l (k + 1)).length r2) rfl rfl (by go_simp) hK) ?_
      generalize (wz.setCell ⟨b5, 4, none⟩ (.slice q2 (tellsK self R C l (k + 1)).length r2)) = wy at HZ ⊢
      (try simp only [Act.put, List.getElem_toArray, List.getElem_cons_succ, List.getElem_cons_zero, List.setIfInBounds_toArray, List.set_cons_zero, List.set_cons_succ])
      clear Q1 Q2
      refine wpList_nil ?_
      go_wp2_with fail
      go_roundw
      case rel => exact ⟨k + 1, _, _, by omega, by go_num, HZ.out⟩
      case measure => simp [intOf]; omega
end Go.Proofs.Ytojijeaofkndpaa
