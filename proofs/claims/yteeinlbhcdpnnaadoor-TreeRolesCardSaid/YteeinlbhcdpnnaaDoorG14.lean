import Derived.Test.YteeinlbhcdpnnaaDoorG4
import Derived.Test.YteeinlbhcdpnnaaDoorG13
import Derived.Test.YteeinlbhcdpnnaaDoorG2
import Derived.Test.YteeinlbhcdpnnaaDoorG11
import Derived.Test.YteeinlbhcdpnnaaDoorG12
set_option linter.unusedSimpArgs false
set_option linter.unusedVariables false
namespace Go.Proofs.YteeinlbhcdpnnaaDoor
section
open Go.RowKit
attribute [local irreducible] wpQuiet wpList
set_option maxRecDepth 100000 in
set_option maxHeartbeats 8000000 in
theorem ch14 (R C : Nat) (P : Int) (b4 b5 : Nat) (v1 v2 : Value) (m1 : List Int) (m2 : List Vc) (f0 f1 f2 f3 f6 f7 f8 f9 f10 f11 f12 f13 f14 f15 f16 f17 f18 f19 f20 f21 f22 f23 f24 f25 f26 f27 f28 f29 f30 f31 f32 f33 f34 f35 f36 f37 f38 f39 f40 f41 f42 f43 f44 f45 f46 f47 f48 f49 f50 f51 f52 f53 f54 f55 f56 f57 f58 f59 f60 f61 f62 f63 f64 f65 f66 f67 f68 f69 f70 f71 f72 f73 f74 f75 : Value) (w wj : World) (hc : ChW w R C P b4 b5 v1 v2 m1 m2 wj) :
 Code.wp Tryd.prog (tail11 14) (bodyPost Tryd.prog Tryd.f22 fun e w' => ∃ u1 u2, e = .returned (.agg (chA R C P u1 u2)) ∧ Own w' w.heap.size 3 1 inC u1 m1 ∧ Own w' w.heap.size 71 4 vcC u2 m2 ∧ Below w.heap.size w w') { tmps := #[f0, f1, f2, f3, .pointer (some ⟨b4, 0, none⟩), .pointer (some ⟨b5, 0, none⟩), f6, f7, f8, f9, f10, f11, f12, f13, f14, f15, f16, f17, f18, f19, f20, f21, f22, f23, f24, f25, f26, f27, f28, f29, f30, f31, f32, f33, f34, f35, f36, f37, f38, f39, f40, f41, f42, f43, f44, f45, f46, f47, f48, f49, f50, f51, f52, f53, f54, f55, f56, f57, f58, f59, f60, f61, f62, f63, f64, f65, f66, f67, f68, f69, f70, f71, f72, f73, f74, f75], defers := [] } wj := by
 have H0 := Lib.hid hc
 have O1 := Lib.hid hc.o1.oneCell
 have O2 := Lib.hid hc.o2.oneCell
 clear hc
 conv => arg 2; whnf
 conv => arg 4; zeta
 go_upto_region 14 with fail
 refine lz (wz1 (.agg (chA R C P v1 v2)) (h1 := by exact run_loadVar_of 79 _ rfl b5 rfl 79 (chA R C P v1 v2) _ H0.out.k5 Tryd.underlying79 rfl size34c) (h := ?_))
 refine wpList_store_row rfl 79 _ _ rfl b4 (chA R C P v1 v2) rfl rfl 79 nilCh H0.out.k4 size34c rfl (by have q1 := O1.out; have q2 := O2.out; simp [chA, Value.oneCell'] at q1 q2 ⊢; first | exact ⟨q1, q2⟩ | simp_all) ?_
 (try simp only [Act.put, gA, gS, gZ, sA, sZ, sS])
 refine wpList_nil ?_
 go_wp2_with fail
 refine bodyPost_ret (v := .agg (chA R C P v1 v2)) (results_cell_row Tryd.results22 _ _ b4 79 (chA R C P v1 v2) (0, 0) _ rfl (H0.out.k4.row _) Tryd.underlying79 rfl size34c) rfl ?_
 exact ⟨v1, v2, rfl, H0.out.o1.rowOther H0.out.a14 _, H0.out.o2.rowOther H0.out.a24 _, below_setRow H0.out.below H0.out.n4 _⟩
end
section
open Go.RowKit
attribute [local irreducible] wpQuiet wpList
def rolesE (self R C : Nat) (P : Int) (l : List Rp) (n : Nat) : List Int := if 0 < P then (rolesK self R C l n).set (P - 1).toNat 3 else rolesK self R C l n
def ChF (self n m k g R C : Nat) (x : Rp) (v1 : Value) (b4 b5 bp bt : Nat) (f2 f3 f6 f7 f10 f11 f12 f13 f14 f15 f16 f17 f18 f19 f20 f21 f22 f23 f24 f25 f26 f27 f28 f29 f30 f31 f32 f33 f34 f35 u50 u51 u52 u53 u54 u55 u56 u57 u58 u59 u60 u61 u62 u63 u64 u65 f66 f67 f68 f69 f70 f71 f72 f73 f74 f75 : Value) (L : Nat → Bool) (v56 v57 : Value) : Act := { tmps := #[.int .u64 (self : Nat), .slice (some ⟨g, 0, none⟩) n m, f2, f3, .pointer (some ⟨b4, 0, none⟩), .pointer (some ⟨b5, 0, none⟩), f6, f7, .pointer (some ⟨bp, 0, none⟩), .pointer (some ⟨bt, 0, none⟩), f10, f11, f12, f13, f14, f15, f16, f17, f18, f19, f20, f21, f22, f23, f24, f25, f26, f27, f28, f29, f30, f31, f32, f33, f34, f35, .slice (some ⟨g, 0, none⟩) n m, .int .i64 (n : Nat), .int .i64 (k : Nat), .bool true, .pointer (some ⟨g, k * 8, none⟩), .agg (rpA x), .pointer (some ⟨b5, 0, none⟩), .int .u64 (R : Nat), .pointer (some ⟨b5, 1, none⟩), .int .u32 (C : Nat), .int .u64 (self : Nat), .pointer (some ⟨bp, 7, none⟩), .int .u16 (x.i : Nat), .agg (vcA (tellsV self R C x)), bif L 0 then .pointer (some ⟨b5, 3, none⟩) else u50, bif L 1 then v1 else u51, bif L 2 then .agg (rpA x) else u52, bif L 3 then .int .u64 (self : Nat) else u53, bif L 4 then .agg (vcA (tellsV self R C x)) else u54, bif L 5 then .int .i64 (roleN self (tellsV self R C x) x) else u55, v56, v57, bif L 8 then .pointer (some ⟨b5, 3, none⟩) else u58, u59, u60, u61, u62, u63, u64, u65, f66, f67, f68, f69, f70, f71, f72, f73, f74, f75], defers := [] }
set_option maxRecDepth 100000 in
set_option maxHeartbeats 8000000 in
theorem ch5 (self : Nat) (l : List Rp) (n m : Nat) (a : Option Addr) (R C : Nat) (P : Int) (b4 b5 : Nat) (f2 f3 f6 f7 f8 f9 f10 f11 f12 f13 f14 f15 f16 f17 f18 f19 f20 f21 f22 f23 f24 f25 f26 f27 f28 f29 f30 f31 f32 f33 f34 f35 f36 f37 f38 f39 f40 f41 f42 f43 f44 f45 f46 f47 f48 f49 f50 f51 f52 f53 f54 f55 f56 f57 f58 f59 f60 f61 f62 f63 f64 f65 f66 f67 f68 f69 f70 f71 f72 f73 f74 f75 : Value) (w wj : World) (B : Nat) (hl : l.length = n) (hn : n ≤ 100) (hP : 0 ≤ P ∧ P ≤ n) (ho : Own w B 76 8 rpC (.slice a n m) l) (hc : ChW w R C P b4 b5 (.slice none 0 0) (.slice none 0 0) [] [] wj) :
 Code.wp Tryd.prog (tail11 5) (bodyPost Tryd.prog Tryd.f22 fun e w' => ∃ u1 u2, e = .returned (.agg (chA R C P u1 u2)) ∧ Own w' w.heap.size 3 1 inC u1 (rolesE self R C P l n) ∧ Own w' w.heap.size 71 4 vcC u2 (tellsK self R C l n) ∧ Below w.heap.size w w') { tmps := #[.int .u64 (self : Nat), .slice a n m, f2, f3, .pointer (some ⟨b4, 0, none⟩), .pointer (some ⟨b5, 0, none⟩), f6, f7, f8, f9, f10, f11, f12, f13, f14, f15, f16, f17, f18, f19, f20, f21, f22, f23, f24, f25, f26, f27, f28, f29, f30, f31, f32, f33, f34, f35, f36, f37, f38, f39, f40, f41, f42, f43, f44, f45, f46, f47, f48, f49, f50, f51, f52, f53, f54, f55, f56, f57, f58, f59, f60, f61, f62, f63, f64, f65, f66, f67, f68, f69, f70, f71, f72, f73, f74, f75], defers := [] } wj := by
 have HO := Lib.hid ho
 have HL := Lib.hid hl
 have HP := Lib.hid hP
 have H0 := Lib.hid hc
 have hcap : n ≤ m ∧ m ≤ maxLen := by
  obtain ⟨a', c', e, h1, h2⟩ := ho.shape
  injection e with _ e2 e3
  subst e3
  omega
 have hm2 : (m : Int) ≤ 9223372036854775807 := by have := hcap.2; unfold maxLen at *; omega
 have hnm : n ≤ m := hcap.1
 clear ho hl hcap hc hP
 conv => arg 2; whnf
 conv => arg 4; zeta
 go_upto_region 6 with fail
 rename_i KX hKX
 have HKX := Lib.hid hKX
 clear hKX
 go_loopw [38] (fun i wr => ∃ (k : Nat) (v1 v2 : Value), k ≤ n ∧ i = .int .i64 k ∧ ChW w R C P b4 b5 v1 v2 (rolesK self R C l k) (tellsK self R C l k) wr) (fun i _ => (n - intOf i).toNat)
 case atStart => exact ⟨0, _, _, by omega, rfl, H0.out⟩
 case round =>
  obtain ⟨k, v1, v2, hk, rfl, hC⟩ := hrel
  have HC := Lib.hid hC
  clear hC
  by_cases hlt : (k : Int) < (n : Int)
  case neg =>
   obtain rfl : k = n := by omega
   go_upto_region 6 with fail
   refine lz (wz1 (.bool false) (h1 := by have q := hlt; go_simp) (h := nz ?_))
   go_wp2_with fail
   refine HKX.out _ _ ?_
   go_upto_region 12 with fail
   rename_i KY hKY KZ hKZ
   have HKY := Lib.hid hKY
   clear hKY
   have C5 := Lib.hid (show ∀ W, Below wr.heap.size wr W → Blk W b5 (chA R C P v1 v2) 79 from fun W hW => HC.out.k5.below hW HC.out.k5.lt)
   have KN := Lib.hid (Kb.nil wr)
   have L1 := Lib.hid (show (rolesK self R C l k).length = k from tk_len _ (by rw [HL.out]; omega))
   by_cases h0 : 0 < P
   case neg =>
    have E1 : rolesE self R C P l k = rolesK self R C l k := by unfold rolesE; rw [if_neg h0]
    refine lz (wz3 (pT b5 2) (iV P) (.bool false) (h2 := by have q : wr.cell? ⟨b5, 2, none⟩ = some (iV P) := (C5.out _ KN.out.below).cell 2; go_simp) (h3 := by have q := h0; go_simp) (h := nz ?_))
    go_wp2_with fail
    skip
    exact HKY.out _ _ (ch14 R C P b4 b5 v1 v2 (rolesE self R C P l k) _ _ _ _ _ _ _ _ _ _ _ _ _ _ _ _ _ _ _ _ _ _ _ _ _ _ _ _ _ _ _ _ _ _ _ _ _ _ _ _ _ _ _ _ _ _ _ _ _ _ _ _ _ _ _ _ _ _ _ _ _ _ _ _ _ _ _ _ _ _ _ _ _ _ _ w wr (by rw [E1]; exact HC.out))
   case pos =>
    obtain ⟨q, rfl⟩ : ∃ q : Nat, P = (q : Int) + 1 := ⟨(P - 1).toNat, by omega⟩
    have hq : q < k := by have := HP.out; omega
    have E1 : rolesE self R C ((q : Int) + 1) l k = (rolesK self R C l k).set q 3 := by unfold rolesE; rw [if_pos h0]; congr 1; omega
    obtain ⟨r, hr⟩ : ∃ r, (rolesK self R C l k)[q]? = some r := ⟨_, List.getElem?_eq_getElem (by rw [L1.out]; exact hq)⟩
    obtain ⟨a1, c1, ev, hc1, hm1⟩ := HC.out.o1.shape
    subst ev
    obtain ⟨g1, ea, hg1, hg2, hat⟩ := Own.elem in_len HC.out.o1 hr
    subst ea
    have Q1 := Lib.hid (show wr.cell? ⟨g1, q * 1, none⟩ = some (.int .i64 r) from hat wr (Below.refl _ _) 0 _ rfl)
    have Q2 := Lib.hid (show wr.frozen? ⟨g1, q * 1, none⟩ = false from HC.out.o1.free (q * 1))
    have ST := Lib.hid (HC.out.o1.store in_len q 3 (by rw [L1.out]; exact hq)).1
    have hcq : (rolesK self R C l k).length ≤ c1 := hc1
    have hlq : (rolesK self R C l k).length = k := L1.out
    have hcm : (c1 : Int) ≤ 9223372036854775807 := by unfold maxLen at hm1; omega
    refine lz (wz3 (pT b5 2) (iV ((q : Int) + 1)) (.bool true) (h2 := by have q1 : wr.cell? ⟨b5, 2, none⟩ = some (iV ((q : Int) + 1)) := (C5.out _ KN.out.below).cell 2; go_simp) (h3 := by have q := h0; go_simp) (h := nz ?_))
    go_upto_region 13 with fail
    refine lz (wz6 (pT b5 3) (.slice (some ⟨g1, 0, none⟩) (rolesK self R C l k).length c1) (pT b5 2) (iV ((q : Int) + 1)) (iV (q : Nat)) (pT g1 (q * 1)) (h2 := by have q1 : wr.cell? ⟨b5, 3, none⟩ = some (.slice (some ⟨g1, 0, none⟩) (rolesK self R C l k).length c1) := (C5.out _ KN.out.below).cell 3; go_simp) (h4 := by have q1 : wr.cell? ⟨b5, 2, none⟩ = some (iV ((q : Int) + 1)) := (C5.out _ KN.out.below).cell 2; go_simp) (h5 := by go_simp; try exact wrap_i64r (by omega) (by omega)) (h := ?_))
    refine wpList_op (by rfl) (fun K hK => wp_store_cell 3 _ _ rfl ⟨g1, q * 1, none⟩ (.int .i64 3) rfl rfl (by have q1 := Q1.out; have q2 := Q2.out; rw [Nat.mul_one] at q1 q2; go_simp) hK) ?_
    have HZ := Lib.hid (show ChW w R C ((q : Int) + 1) b4 b5 (.slice (some ⟨g1, 0, none⟩) (rolesK self R C l k).length c1) v2 ((rolesK self R C l k).set q 3) (tellsK self R C l k) (wr.setCell ⟨g1, q * 1, none⟩ (.int .i64 3)) from
     ⟨HC.out.below.setCell hg1 _, HC.out.k4.other (a := ⟨g1, q * 1, none⟩) (fun e => HC.out.a14 (by rw [← e]; rfl)) _, HC.out.k5.other (a := ⟨g1, q * 1, none⟩) (fun e => HC.out.a15 (by rw [← e]; rfl)) _, HC.out.n4, HC.out.n5, HC.out.n45, ST.out, HC.out.o2.setCell (fun e => HC.out.a12 g1 rfl e) _, HC.out.a14, HC.out.a15, HC.out.a24, HC.out.a25, HC.out.a12⟩)
    generalize (wr.setCell ⟨g1, q * 1, none⟩ (.int .i64 3)) = wz at HZ ⊢
    (try simp only [Act.put, gA, gS, gZ, sA, sZ, sS])
    refine wpList_nil ?_
    go_wp2_with fail
    exact HKY.out _ _ (ch14 R C ((q : Int) + 1) b4 b5 _ v2 (rolesE self R C ((q : Int) + 1) l k) _ _ _ _ _ _ _ _ _ _ _ _ _ _ _ _ _ _ _ _ _ _ _ _ _ _ _ _ _ _ _ _ _ _ _ _ _ _ _ _ _ _ _ _ _ _ _ _ _ _ _ _ _ _ _ _ _ _ _ _ _ _ _ _ _ _ _ _ _ _ _ _ _ _ _ w wz (by rw [E1]; exact HZ.out))
  case pos =>
   obtain ⟨x, hx⟩ : ∃ x, l[k]? = some x := ⟨_, List.getElem?_eq_getElem (by rw [HL.out]; omega)⟩
   have o1 := HO.out
   rw [← HL.out] at o1
   obtain ⟨g, rfl, -, -, hr⟩ := Own.elem rp_len o1 hx
   have RX := Lib.hid (show ∀ W, Below wr.heap.size wr W → W.rangeAt g (k * 8) (rpC x) from fun W hW => hr W (HC.out.below.trans (hW.mono HC.out.below.size)))
   have HX := Lib.hid hx
   clear o1 hr hx
   have hkm : k ≤ m := by omega
   have C5 := Lib.hid (show ∀ W, Below wr.heap.size wr W → Blk W b5 (chA R C P v1 v2) 79 from fun W hW => HC.out.k5.below hW HC.out.k5.lt)
   have K0 := Lib.hid (Kb.nil wr)
   go_upto_region 6 with fail
   refine lz (wz1 (.bool true) (h1 := by have q := hlt; go_simp) (h := nz ?_))
   go_upto_region 7 with fail
   refine lz (wz2 (pT g (k * 8)) (.agg (rpA x)) (h2 := by exact run_loadRange 76 _ rfl g (k * 8) rfl (rpA x) _ (RX.out _ K0.out.below) Tryd.underlying76 rfl size47) (h := ?_))
   refine kb_alloc K0.out 76 (nil8) rfl z47 (by rfl) (pz (h := ?_))
   intro b1 w1 K1
   refine kb_row K1.out 0 rfl 76 _ _ (rpA x) rfl rfl rfl rfl (size47) (by rfl) (by kernel_rfl) (py (h := ?_))
   intro w2 K2
   refine wpList_nil ?_
   go_upto_region 8 with fail
   refine lz (wz6 (pT b5 0) (.int .u64 (R : Nat)) (pT b5 1) (.int .u32 (C : Nat)) (.int .u64 (self : Nat)) (pT b1 7) (h2 := by have q : w2.cell? ⟨b5, 0, none⟩ = some (.int .u64 (R : Nat)) := (C5.out _ K2.out.below).cell 0; go_simp) (h4 := by have q : w2.cell? ⟨b5, 1, none⟩ = some (.int .u32 (C : Nat)) := (C5.out _ K2.out.below).cell 1; go_simp) (h := wz2 (.int .u16 (x.i : Nat)) (.agg (vcA (tellsV self R C x))) (h1 := by have q : w2.cell? ⟨b1, 7, none⟩ = some (.int .u16 (x.i : Nat)) := K2.out.cell (i := 0) rfl (by rfl); go_simp) (h2 := by exact run_build_of 71 [(0, .tmp 43), (1, .tmp 45), (2, .tmp 46), (3, .tmp 48)] rfl _ (vcA (tellsV self R C x)) rfl (by kernel_rfl)) (h := ?_)))
   refine kb_alloc K2.out 71 (nil4) rfl z44 (by rfl) (pz (h := ?_))
   intro b3 w3 K3
   refine kb_row K3.out 1 rfl 71 _ _ (vcA (tellsV self R C x)) rfl rfl rfl rfl (sizeV) (by rfl) (by kernel_rfl) (py (h := ?_))
   intro w4 K4
   refine wpList_nil ?_
   have H8 := Lib.hid (HC.out.next K4.out.below)
   have BP := Lib.hid (K4.out.at (i := 0) rfl)
   have BT := Lib.hid (K4.out.at (i := 1) rfl)
   have NP := Lib.hid (K4.out.new (b1, rpA x, 76) (by simp))
   have NT := Lib.hid (K4.out.new (b3, vcA (tellsV self R C x), 71) (by simp))
   have KF := Lib.hid (show ∀ W, w4.grownBy W v1.ownBlock → W.cell? ⟨b5, 3, none⟩ = some v1 ∧ Blk W b1 (rpA x) 76 ∧ Blk W b3 (vcA (tellsV self R C x)) 71 from fun W hW => by
    refine ⟨(H8.out.k5.grown hW (fun e => H8.out.a15 e.symm)).cell 3, BP.out.grown hW (fun e => ?_), BT.out.grown hW (fun e => ?_)⟩
    ·
     have := (HC.out.o1.lt b1 e.symm).2
     have := NP.out
     simp only at this
     omega
    ·
     have := (HC.out.o1.lt b3 e.symm).2
     have := NT.out
     simp only at this
     omega)
   have RL := Lib.hid (show rolesK self R C l k ++ [roleN self (tellsV self R C x) x] = rolesK self R C l (k + 1) from tk_step (fun x => roleN self (tellsV self R C x) x) HX.out)
   have TL := Lib.hid (show tellsK self R C l k ++ [tellsV self R C x] = tellsK self R C l (k + 1) from tk_step (tellsV self R C) HX.out)
   have L1 := Lib.hid (show (rolesK self R C l k).length = k from tk_len _ (by rw [HL.out]; omega))
   have L2 := Lib.hid (show (tellsK self R C l k).length = k from tk_len _ (by rw [HL.out]; omega))
   go_upto_region 9 with fail
   refine wp_region_lastW 9 (I := fun L ac w' => ∃ (v56 v57 : Value), ac = ChF self n m k g R C x v1 b4 b5 b1 b3 f2 f3 f6 f7 f10 f11 f12 f13 f14 f15 f16 f17 f18 f19 f20 f21 f22 f23 f24 f25 f26 f27 f28 f29 f30 f31 f32 f33 f34 f35 u50 u51 u52 u53 u54 u55 u56 u57 u58 u59 u60 u61 u62 u63 u64 u65 f66 f67 f68 f69 f70 f71 f72 f73 f74 f75 L v56 v57 ∧ ApW w4 w.heap.size 3 1 inC v1 (rolesK self R C l k) (roleN self (tellsV self R C x) x) (L 6) (L 7) v56 v57 w') (by kernel_rfl) (by kernel_rfl) (by kernel_rfl) ⟨u56, u57, by kernel_rfl, ApW.start H8.out.o1 H8.out.below.size⟩ ?_ ?_
   ·
    intro i hi Lx ac w' hI hL haft
    obtain ⟨v56, v57, rfl, hw⟩ := hI
    match i, hi with
    | 0, _ =>
     have e5 : (ChF self n m k g R C x v1 b4 b5 b1 b3 f2 f3 f6 f7 f10 f11 f12 f13 f14 f15 f16 f17 f18 f19 f20 f21 f22 f23 f24 f25 f26 f27 f28 f29 f30 f31 f32 f33 f34 f35 u50 u51 u52 u53 u54 u55 u56 u57 u58 u59 u60 u61 u62 u63 u64 u65 f66 f67 f68 f69 f70 f71 f72 f73 f74 f75 Lx v56 v57).eval (.tmp 5) = .pointer (some ⟨b5, 0, none⟩) := by kernel_rfl
     have g5 : (ChF self n m k g R C x v1 b4 b5 b1 b3 f2 f3 f6 f7 f10 f11 f12 f13 f14 f15 f16 f17 f18 f19 f20 f21 f22 f23 f24 f25 f26 f27 f28 f29 f30 f31 f32 f33 f34 f35 u50 u51 u52 u53 u54 u55 u56 u57 u58 u59 u60 u61 u62 u63 u64 u65 f66 f67 f68 f69 f70 f71 f72 f73 f74 f75 Lx v56 v57).tmps[5]?.getD undef = .pointer (some ⟨b5, 0, none⟩) := by kernel_rfl
     exact i_val rfl (.pointer (some ⟨b5, 3, none⟩)) w' (by rfl) (by go_simp) ⟨_, _, by kernel_rfl, hw⟩
    | 1, _ =>
     have h0 := haft 0 (by decide)
     have e50 : (ChF self n m k g R C x v1 b4 b5 b1 b3 f2 f3 f6 f7 f10 f11 f12 f13 f14 f15 f16 f17 f18 f19 f20 f21 f22 f23 f24 f25 f26 f27 f28 f29 f30 f31 f32 f33 f34 f35 u50 u51 u52 u53 u54 u55 u56 u57 u58 u59 u60 u61 u62 u63 u64 u65 f66 f67 f68 f69 f70 f71 f72 f73 f74 f75 Lx v56 v57).eval (.tmp 50) = .pointer (some ⟨b5, 3, none⟩) := by show (bif Lx 0 then _ else _) = _; rw [h0]; rfl
     have g50 : (ChF self n m k g R C x v1 b4 b5 b1 b3 f2 f3 f6 f7 f10 f11 f12 f13 f14 f15 f16 f17 f18 f19 f20 f21 f22 f23 f24 f25 f26 f27 f28 f29 f30 f31 f32 f33 f34 f35 u50 u51 u52 u53 u54 u55 u56 u57 u58 u59 u60 u61 u62 u63 u64 u65 f66 f67 f68 f69 f70 f71 f72 f73 f74 f75 Lx v56 v57).tmps[50]?.getD undef = .pointer (some ⟨b5, 3, none⟩) := by show (bif Lx 0 then _ else _) = _; rw [h0]; rfl
     have q := (KF.out w' hw.g).1
     exact i_val rfl (v1) w' (by rfl) (by go_simp) ⟨_, _, by kernel_rfl, hw⟩
    | 2, _ =>
     have e8 : (ChF self n m k g R C x v1 b4 b5 b1 b3 f2 f3 f6 f7 f10 f11 f12 f13 f14 f15 f16 f17 f18 f19 f20 f21 f22 f23 f24 f25 f26 f27 f28 f29 f30 f31 f32 f33 f34 f35 u50 u51 u52 u53 u54 u55 u56 u57 u58 u59 u60 u61 u62 u63 u64 u65 f66 f67 f68 f69 f70 f71 f72 f73 f74 f75 Lx v56 v57).eval (.tmp 8) = .pointer (some ⟨b1, 0, none⟩) := by kernel_rfl
     have g8 : (ChF self n m k g R C x v1 b4 b5 b1 b3 f2 f3 f6 f7 f10 f11 f12 f13 f14 f15 f16 f17 f18 f19 f20 f21 f22 f23 f24 f25 f26 f27 f28 f29 f30 f31 f32 f33 f34 f35 u50 u51 u52 u53 u54 u55 u56 u57 u58 u59 u60 u61 u62 u63 u64 u65 f66 f67 f68 f69 f70 f71 f72 f73 f74 f75 Lx v56 v57).tmps[8]?.getD undef = .pointer (some ⟨b1, 0, none⟩) := by kernel_rfl
     exact i_val rfl (.agg (rpA x)) w' (by rfl) (run_loadVar_of 76 _ rfl b1 e8 76 (rpA x) _ (KF.out w' hw.g).2.1 Tryd.underlying76 rfl size47) ⟨_, _, by kernel_rfl, hw⟩
    | 3, _ =>
     have e0 : (ChF self n m k g R C x v1 b4 b5 b1 b3 f2 f3 f6 f7 f10 f11 f12 f13 f14 f15 f16 f17 f18 f19 f20 f21 f22 f23 f24 f25 f26 f27 f28 f29 f30 f31 f32 f33 f34 f35 u50 u51 u52 u53 u54 u55 u56 u57 u58 u59 u60 u61 u62 u63 u64 u65 f66 f67 f68 f69 f70 f71 f72 f73 f74 f75 Lx v56 v57).eval (.tmp 0) = .int .u64 (self : Nat) := by kernel_rfl
     have g0 : (ChF self n m k g R C x v1 b4 b5 b1 b3 f2 f3 f6 f7 f10 f11 f12 f13 f14 f15 f16 f17 f18 f19 f20 f21 f22 f23 f24 f25 f26 f27 f28 f29 f30 f31 f32 f33 f34 f35 u50 u51 u52 u53 u54 u55 u56 u57 u58 u59 u60 u61 u62 u63 u64 u65 f66 f67 f68 f69 f70 f71 f72 f73 f74 f75 Lx v56 v57).tmps[0]?.getD undef = .int .u64 (self : Nat) := by kernel_rfl
     exact i_val rfl (.int .u64 (self : Nat)) w' (by rfl) (by go_simp) ⟨_, _, by kernel_rfl, hw⟩
    | 4, _ =>
     have e9 : (ChF self n m k g R C x v1 b4 b5 b1 b3 f2 f3 f6 f7 f10 f11 f12 f13 f14 f15 f16 f17 f18 f19 f20 f21 f22 f23 f24 f25 f26 f27 f28 f29 f30 f31 f32 f33 f34 f35 u50 u51 u52 u53 u54 u55 u56 u57 u58 u59 u60 u61 u62 u63 u64 u65 f66 f67 f68 f69 f70 f71 f72 f73 f74 f75 Lx v56 v57).eval (.tmp 9) = .pointer (some ⟨b3, 0, none⟩) := by kernel_rfl
     have g9 : (ChF self n m k g R C x v1 b4 b5 b1 b3 f2 f3 f6 f7 f10 f11 f12 f13 f14 f15 f16 f17 f18 f19 f20 f21 f22 f23 f24 f25 f26 f27 f28 f29 f30 f31 f32 f33 f34 f35 u50 u51 u52 u53 u54 u55 u56 u57 u58 u59 u60 u61 u62 u63 u64 u65 f66 f67 f68 f69 f70 f71 f72 f73 f74 f75 Lx v56 v57).tmps[9]?.getD undef = .pointer (some ⟨b3, 0, none⟩) := by kernel_rfl
     exact i_val rfl (.agg (vcA (tellsV self R C x))) w' (by rfl) (run_loadVar_of 71 _ rfl b3 e9 71 (vcA (tellsV self R C x)) _ (KF.out w' hw.g).2.2 Tryd.underlying71 rfl sizeV) ⟨_, _, by kernel_rfl, hw⟩
    | 5, _ =>
     have h2 := haft 2 (by decide)
     have e52 : (ChF self n m k g R C x v1 b4 b5 b1 b3 f2 f3 f6 f7 f10 f11 f12 f13 f14 f15 f16 f17 f18 f19 f20 f21 f22 f23 f24 f25 f26 f27 f28 f29 f30 f31 f32 f33 f34 f35 u50 u51 u52 u53 u54 u55 u56 u57 u58 u59 u60 u61 u62 u63 u64 u65 f66 f67 f68 f69 f70 f71 f72 f73 f74 f75 Lx v56 v57).eval (.tmp 52) = .agg (rpA x) := by show (bif Lx 2 then _ else _) = _; rw [h2]; rfl
     have g52 : (ChF self n m k g R C x v1 b4 b5 b1 b3 f2 f3 f6 f7 f10 f11 f12 f13 f14 f15 f16 f17 f18 f19 f20 f21 f22 f23 f24 f25 f26 f27 f28 f29 f30 f31 f32 f33 f34 f35 u50 u51 u52 u53 u54 u55 u56 u57 u58 u59 u60 u61 u62 u63 u64 u65 f66 f67 f68 f69 f70 f71 f72 f73 f74 f75 Lx v56 v57).tmps[52]?.getD undef = .agg (rpA x) := by show (bif Lx 2 then _ else _) = _; rw [h2]; rfl
     have h3 := haft 3 (by decide)
     have e53 : (ChF self n m k g R C x v1 b4 b5 b1 b3 f2 f3 f6 f7 f10 f11 f12 f13 f14 f15 f16 f17 f18 f19 f20 f21 f22 f23 f24 f25 f26 f27 f28 f29 f30 f31 f32 f33 f34 f35 u50 u51 u52 u53 u54 u55 u56 u57 u58 u59 u60 u61 u62 u63 u64 u65 f66 f67 f68 f69 f70 f71 f72 f73 f74 f75 Lx v56 v57).eval (.tmp 53) = .int .u64 (self : Nat) := by show (bif Lx 3 then _ else _) = _; rw [h3]; rfl
     have g53 : (ChF self n m k g R C x v1 b4 b5 b1 b3 f2 f3 f6 f7 f10 f11 f12 f13 f14 f15 f16 f17 f18 f19 f20 f21 f22 f23 f24 f25 f26 f27 f28 f29 f30 f31 f32 f33 f34 f35 u50 u51 u52 u53 u54 u55 u56 u57 u58 u59 u60 u61 u62 u63 u64 u65 f66 f67 f68 f69 f70 f71 f72 f73 f74 f75 Lx v56 v57).tmps[53]?.getD undef = .int .u64 (self : Nat) := by show (bif Lx 3 then _ else _) = _; rw [h3]; rfl
     have h4 := haft 4 (by decide)
     have e54 : (ChF self n m k g R C x v1 b4 b5 b1 b3 f2 f3 f6 f7 f10 f11 f12 f13 f14 f15 f16 f17 f18 f19 f20 f21 f22 f23 f24 f25 f26 f27 f28 f29 f30 f31 f32 f33 f34 f35 u50 u51 u52 u53 u54 u55 u56 u57 u58 u59 u60 u61 u62 u63 u64 u65 f66 f67 f68 f69 f70 f71 f72 f73 f74 f75 Lx v56 v57).eval (.tmp 54) = .agg (vcA (tellsV self R C x)) := by show (bif Lx 4 then _ else _) = _; rw [h4]; rfl
     have g54 : (ChF self n m k g R C x v1 b4 b5 b1 b3 f2 f3 f6 f7 f10 f11 f12 f13 f14 f15 f16 f17 f18 f19 f20 f21 f22 f23 f24 f25 f26 f27 f28 f29 f30 f31 f32 f33 f34 f35 u50 u51 u52 u53 u54 u55 u56 u57 u58 u59 u60 u61 u62 u63 u64 u65 f66 f67 f68 f69 f70 f71 f72 f73 f74 f75 Lx v56 v57).tmps[54]?.getD undef = .agg (vcA (tellsV self R C x)) := by show (bif Lx 4 then _ else _) = _; rw [h4]; rfl
     exact i_call rfl (.int .i64 (roleN self (tellsV self R C x) x)) 54 #[.agg (rpA x), .int .u64 (self : Nat), .agg (vcA (tellsV self R C x))] (fun w2 => Below w'.heap.size w' w2) (by rfl) (by go_simp) (role_any self (tellsV self R C x) x w') (fun w2 hb => ⟨_, _, by kernel_rfl, hw.next hb⟩)
    | 6, _ =>
     have h5 := haft 5 (by decide)
     have e55 : (ChF self n m k g R C x v1 b4 b5 b1 b3 f2 f3 f6 f7 f10 f11 f12 f13 f14 f15 f16 f17 f18 f19 f20 f21 f22 f23 f24 f25 f26 f27 f28 f29 f30 f31 f32 f33 f34 f35 u50 u51 u52 u53 u54 u55 u56 u57 u58 u59 u60 u61 u62 u63 u64 u65 f66 f67 f68 f69 f70 f71 f72 f73 f74 f75 Lx v56 v57).eval (.tmp 55) = .int .i64 (roleN self (tellsV self R C x) x) := by show (bif Lx 5 then _ else _) = _; rw [h5]; rfl
     have g55 : (ChF self n m k g R C x v1 b4 b5 b1 b3 f2 f3 f6 f7 f10 f11 f12 f13 f14 f15 f16 f17 f18 f19 f20 f21 f22 f23 f24 f25 f26 f27 f28 f29 f30 f31 f32 f33 f34 f35 u50 u51 u52 u53 u54 u55 u56 u57 u58 u59 u60 u61 u62 u63 u64 u65 f66 f67 f68 f69 f70 f71 f72 f73 f74 f75 Lx v56 v57).tmps[55]?.getD undef = .int .i64 (roleN self (tellsV self R C x) x) := by show (bif Lx 5 then _ else _) = _; rw [h5]; rfl
     exact i_val rfl (.slice (some ⟨w'.heap.size, 0, none⟩) 1 1) (w'.alloc (.cells #[.int .i64 (roleN self (tellsV self R C x) x)] 3)) (by rfl) (run_bs1 45 (.tmp 55) rfl (.int .i64 (roleN self (tellsV self R C x) x)) _ e55 (one_in5 _ w')) ⟨(.slice (some ⟨w'.heap.size, 0, none⟩) 1 1), v57, by kernel_rfl, hw.made inT hL _ rfl⟩
    | 7, _ =>
     have h1 := haft 1 (by decide)
     have e51 : (ChF self n m k g R C x v1 b4 b5 b1 b3 f2 f3 f6 f7 f10 f11 f12 f13 f14 f15 f16 f17 f18 f19 f20 f21 f22 f23 f24 f25 f26 f27 f28 f29 f30 f31 f32 f33 f34 f35 u50 u51 u52 u53 u54 u55 u56 u57 u58 u59 u60 u61 u62 u63 u64 u65 f66 f67 f68 f69 f70 f71 f72 f73 f74 f75 Lx v56 v57).eval (.tmp 51) = v1 := by show (bif Lx 1 then _ else _) = _; rw [h1]; rfl
     have g51 : (ChF self n m k g R C x v1 b4 b5 b1 b3 f2 f3 f6 f7 f10 f11 f12 f13 f14 f15 f16 f17 f18 f19 f20 f21 f22 f23 f24 f25 f26 f27 f28 f29 f30 f31 f32 f33 f34 f35 u50 u51 u52 u53 u54 u55 u56 u57 u58 u59 u60 u61 u62 u63 u64 u65 f66 f67 f68 f69 f70 f71 f72 f73 f74 f75 Lx v56 v57).tmps[51]?.getD undef = v1 := by show (bif Lx 1 then _ else _) = _; rw [h1]; rfl
     have e56 : (ChF self n m k g R C x v1 b4 b5 b1 b3 f2 f3 f6 f7 f10 f11 f12 f13 f14 f15 f16 f17 f18 f19 f20 f21 f22 f23 f24 f25 f26 f27 f28 f29 f30 f31 f32 f33 f34 f35 u50 u51 u52 u53 u54 u55 u56 u57 u58 u59 u60 u61 u62 u63 u64 u65 f66 f67 f68 f69 f70 f71 f72 f73 f74 f75 Lx v56 v57).eval (.tmp 56) = v56 := by kernel_rfl
     obtain ⟨u, w2, hrun, hw2⟩ := hw.app inT (haft 6 (by decide)) hL (by rw [L1.out]; omega) 45
     have hmk := haft 6 (by decide)
     exact i_wp rfl (by rfl) (wp_append_lst _ _ 45 rfl u w2 (by rw [e51, e56]; exact hrun) ⟨v56, u, by kernel_rfl, by rw [show upd Lx 7 6 = true from hmk]; exact hw2⟩)
    | 8, _ =>
     have e5 : (ChF self n m k g R C x v1 b4 b5 b1 b3 f2 f3 f6 f7 f10 f11 f12 f13 f14 f15 f16 f17 f18 f19 f20 f21 f22 f23 f24 f25 f26 f27 f28 f29 f30 f31 f32 f33 f34 f35 u50 u51 u52 u53 u54 u55 u56 u57 u58 u59 u60 u61 u62 u63 u64 u65 f66 f67 f68 f69 f70 f71 f72 f73 f74 f75 Lx v56 v57).eval (.tmp 5) = .pointer (some ⟨b5, 0, none⟩) := by kernel_rfl
     have g5 : (ChF self n m k g R C x v1 b4 b5 b1 b3 f2 f3 f6 f7 f10 f11 f12 f13 f14 f15 f16 f17 f18 f19 f20 f21 f22 f23 f24 f25 f26 f27 f28 f29 f30 f31 f32 f33 f34 f35 u50 u51 u52 u53 u54 u55 u56 u57 u58 u59 u60 u61 u62 u63 u64 u65 f66 f67 f68 f69 f70 f71 f72 f73 f74 f75 Lx v56 v57).tmps[5]?.getD undef = .pointer (some ⟨b5, 0, none⟩) := by kernel_rfl
     exact i_val rfl (.pointer (some ⟨b5, 3, none⟩)) w' (by rfl) (by go_simp) ⟨_, _, by kernel_rfl, hw⟩
    | q + 9, h =>
     exfalso
     have h2 : q + 9 < 9 := h
     omega
   intro Lx ac w' hI hall
   obtain ⟨v56, v57, rfl, hw⟩ := hI
   have hfr : ChF self n m k g R C x v1 b4 b5 b1 b3 f2 f3 f6 f7 f10 f11 f12 f13 f14 f15 f16 f17 f18 f19 f20 f21 f22 f23 f24 f25 f26 f27 f28 f29 f30 f31 f32 f33 f34 f35 u50 u51 u52 u53 u54 u55 u56 u57 u58 u59 u60 u61 u62 u63 u64 u65 f66 f67 f68 f69 f70 f71 f72 f73 f74 f75 Lx v56 v57 = { tmps := #[.int .u64 (self : Nat), .slice (some ⟨g, 0, none⟩) n m, f2, f3, .pointer (some ⟨b4, 0, none⟩), .pointer (some ⟨b5, 0, none⟩), f6, f7, .pointer (some ⟨b1, 0, none⟩), .pointer (some ⟨b3, 0, none⟩), f10, f11, f12, f13, f14, f15, f16, f17, f18, f19, f20, f21, f22, f23, f24, f25, f26, f27, f28, f29, f30, f31, f32, f33, f34, f35, .slice (some ⟨g, 0, none⟩) n m, .int .i64 (n : Nat), .int .i64 (k : Nat), .bool true, .pointer (some ⟨g, k * 8, none⟩), .agg (rpA x), .pointer (some ⟨b5, 0, none⟩), .int .u64 (R : Nat), .pointer (some ⟨b5, 1, none⟩), .int .u32 (C : Nat), .int .u64 (self : Nat), .pointer (some ⟨b1, 7, none⟩), .int .u16 (x.i : Nat), .agg (vcA (tellsV self R C x)), .pointer (some ⟨b5, 3, none⟩), v1, .agg (rpA x), .int .u64 (self : Nat), .agg (vcA (tellsV self R C x)), .int .i64 (roleN self (tellsV self R C x) x), v56, v57, .pointer (some ⟨b5, 3, none⟩), u59, u60, u61, u62, u63, u64, u65, f66, f67, f68, f69, f70, f71, f72, f73, f74, f75], defers := [] } := by unfold ChF; simp only [hall 0 (by decide), hall 1 (by decide), hall 2 (by decide), hall 3 (by decide), hall 4 (by decide), hall 5 (by decide), hall 8 (by decide), cond_true]
   rw [hfr]
   clear hfr
   rw [hall 6 (by decide), hall 7 (by decide)] at hw
   have OA := hw.pr rfl
   rw [RL.out] at OA
   obtain ⟨q', r', eu, -⟩ := OA.shape
   subst eu
   have Q1 : w'.cell? ⟨b5, 3, none⟩ = some v1 := (KF.out w' hw.g).1
   have Q2 : w'.frozen? ⟨b5, 3, none⟩ = false := (H8.out.k5.grown hw.g (fun e => H8.out.a15 e.symm)).free 3
   have H9 := Lib.hid (H8.out.put1 hw.g OA (hw.pb rfl))
   have B9 := Lib.hid (show Blk (w'.setCell ⟨b5, 3, none⟩ (.slice q' (rolesK self R C l (k + 1)).length r')) b3 (vcA (tellsV self R C x)) 71 from ((KF.out w' hw.g).2.2).other (a := ⟨b5, 3, none⟩) (fun e => by have := NT.out; have := HC.out.k5.lt; simp only at *; omega) _)
   clear hw hall OA
   refine i_wp rfl (by rfl) (wp_store_cell 45 _ _ rfl ⟨b5, 3, none⟩ (.slice q' (rolesK self R C l (k + 1)).length r') rfl rfl (by go_simp) ?_)
   generalize (w'.setCell ⟨b5, 3, none⟩ (.slice q' (rolesK self R C l (k + 1)).length r')) = w9 at H9 B9 ⊢
   (try simp only [Act.put, gA, gS, gZ, sA, sZ, sS])
   clear Q1 Q2
   go_upto_region 10 with fail
   refine lz (wz1 (pT b5 4) (h := ?_))
   refine wpList_val v2 (by rfl) (by have q : w9.cell? ⟨b5, 4, none⟩ = some v2 := H9.out.k5.cell 4; go_simp) ?_
   (try simp only [Act.put, gA, gS, gZ, sA, sZ, sS])
   refine wz1 (.agg (vcA (tellsV self R C x))) (h1 := by exact run_loadVar_of 71 _ rfl b3 rfl 71 (vcA (tellsV self R C x)) _ B9.out Tryd.underlying71 rfl sizeV) (h := ?_)
   have A0 := Lib.hid ((ApW.start05 (x := tellsV self R C x) (vS := undef) (vR := undef) H9.out.o2 H9.out.below.size).made vcT rfl (vcA (tellsV self R C x)) rfl)
   refine wpList_made5 (.slice (some ⟨w9.heap.size, 0, none⟩) 1 1) (by rfl) (run_bs1 77 (.tmp 61) rfl (vcV (tellsV self R C x)) _ rfl (one_vc (tellsV self R C x) w9)) ?_
   (try simp only [Act.put, gA, gS, gZ, sA, sZ, sS])
   obtain ⟨u, wz, hrun, hz⟩ := A0.out.app vcT rfl rfl (by rw [L2.out]; omega) 77
   refine wpList_op (by rfl) (fun K hK => wp_append_lst _ _ 77 rfl u wz hrun hK) ?_
   (try simp only [Act.put, gA, gS, gZ, sA, sZ, sS])
   have OZ := hz.pr rfl
   rw [TL.out] at OZ
   obtain ⟨q2, r2, eu, -⟩ := OZ.shape
   subst eu
   have Q1 : wz.cell? ⟨b5, 4, none⟩ = some v2 := (H9.out.k5.grown hz.g (fun e => H9.out.a25 e.symm)).cell 4
   have Q2 : wz.frozen? ⟨b5, 4, none⟩ = false := (H9.out.k5.grown hz.g (fun e => H9.out.a25 e.symm)).free 4
   have HZ := Lib.hid (H9.out.put2 hz.g OZ (hz.pb rfl))
   clear hrun hz OZ
   refine wz1 (pT b5 4) (h := ?_)
   refine wpList_op (by rfl) (fun K hK => wp_store_cell 77 _ _ rfl ⟨b5, 4, none⟩ (.slice q2 (tellsK self R C l (k + 1)).length r2) rfl rfl (by go_simp) hK) ?_
   generalize (wz.setCell ⟨b5, 4, none⟩ (.slice q2 (tellsK self R C l (k + 1)).length r2)) = wy at HZ ⊢
   (try simp only [Act.put, gA, gS, gZ, sA, sZ, sS])
   clear Q1 Q2
   refine wpList_nil ?_
   go_wp2_with fail
   go_roundw
   case rel => exact ⟨k + 1, _, _, by omega, by go_num, HZ.out⟩
   case measure => simp [intOf]; omega
end
section
open Go.RowKit
attribute [local irreducible] wpQuiet wpList
theorem best_some {self : Nat} {l : List Rp} : ∀ {k : Nat} {y : Nat × Rp}, bestU self l k = some y → y.1 < k ∧ l[y.1]? = some y.2 ∧ wayB self y.2 = true
 | 0, y, h => by cases h
 | k + 1, y, h => by
  cases hx : l[k]? with
  | none =>
   have e : bestU self l (k + 1) = bestU self l k := by
    show (match l[k]? with | none => bestU self l k | some x => if wayB self x && (match bestU self l k with | none => true | some y => aheadB x y.2) then some (k, x) else bestU self l k) = _
    rw [hx]
   rw [e] at h
   obtain ⟨h1, h2⟩ := best_some h
   exact ⟨by omega, h2⟩
  | some x =>
   cases c : (wayB self x && (match bestU self l k with | none => true | some y => aheadB x y.2)) with
   | false =>
    rw [best_no hx c] at h
    obtain ⟨h1, h2⟩ := best_some h
    exact ⟨by omega, h2⟩
   | true =>
    rw [best_yes hx c] at h
    injection h with h
    subst h
    rw [Bool.and_eq_true] at c
    exact ⟨by simp, hx, c.1⟩
def rootN (self : Nat) : Option (Nat × Rp) → Nat
 | none => self
 | some y => if y.2.v.r < self then y.2.v.r else self
def costN (self : Nat) : Option (Nat × Rp) → Nat
 | none => 0
 | some y => if y.2.v.r < self then (plusV y.2.v y.2.c).c else 0
def portN (self : Nat) : Option (Nat × Rp) → Int
 | none => 0
 | some y => if y.2.v.r < self then (y.1 : Int) + 1 else 0
theorem kb_ne {w0 w : World} {b b' : Nat} {c c' : Array Value} {t t' : TypeId} {l : List (Nat × Array Value × TypeId)} (K : Kb w0 ((b, c, t) :: (b', c', t') :: l) w) : b ≠ b' := by
 have := K.nd
 simp at this
 exact this.1.1
set_option maxRecDepth 100000 in
set_option maxHeartbeats 8000000 in
theorem choose_any (self : Nat) (l : List Rp) (n m : Nat) (a : Option Addr) (w : World) (B : Nat) (hl : l.length = n) (hn : n ≤ 100) (ho : Own w B 76 8 rpC (.slice a n m) l) (hok : ∀ x ∈ l, x.ok) :
 Calls Tryd.prog 22 #[.int .u64 (self : Nat), .slice a n m] w fun e w' => ∃ u1 u2, e = .returned (.agg (chA (rootN self (bestU self l n)) (costN self (bestU self l n)) (portN self (bestU self l n)) u1 u2)) ∧
  Own w' w.heap.size 3 1 inC u1 (rolesE self (rootN self (bestU self l n)) (costN self (bestU self l n)) (portN self (bestU self l n)) l n) ∧ Own w' w.heap.size 71 4 vcC u2 (tellsK self (rootN self (bestU self l n)) (costN self (bestU self l n)) l n) ∧ Below w.heap.size w w' := by
 obtain ⟨F, hF⟩ : ∃ F, F = bestU self l n := ⟨_, rfl⟩
 have BS := Lib.hid (fun y (h : F = some y) => best_some (self := self) (l := l) (k := n) (y := y) (hF ▸ h))
 have BA := Lib.hid (fun w (ho : Own w B 76 8 rpC (.slice a n m) l) => best_any self l n m a w B hl hn ho hok)
 have HO := Lib.hid ho
 have HL := Lib.hid hl
 rw [← hF] at BA ⊢
 clear hF ho hl hok
 cases F with
 | none =>
  rw [show rootN self none = self from rfl, show costN self none = 0 from rfl, show portN self none = 0 from rfl]
  have K := Lib.hid (Kb.nil w)
  go_enter Tryd.func22, Tryd.ntmps22
  go_upto_region 0 with fail
  refine wp_region_lit ?_
  refine kb_alloc K.out 79 (nilCh) rfl z34c (by rfl) (pz (h := ?_))
  intro b1 w1 K1
  refine wpList_nil ?_
  go_upto_region 1 with fail
  refine lz (wz2 (.int .u64 (self : Nat)) (.agg (chA self 0 0 (.slice none 0 0) (.slice none 0 0))) (h2 := by exact run_build_of 79 [(0, .tmp 10)] rfl _ (chA self 0 0 (.slice none 0 0) (.slice none 0 0)) rfl (by kernel_rfl)) (h := ?_))
  refine kb_alloc K1.out 79 (nilCh) rfl z34c (by rfl) (pz (h := ?_))
  intro b2 w2 K2
  refine kb_row K2.out 1 rfl 79 _ _ (chA self 0 0 (.slice none 0 0) (.slice none 0 0)) rfl rfl rfl rfl (size34c) (by rfl) (by kernel_rfl) (py (h := ?_))
  intro w3 K3
  refine wpList_nil ?_
  go_upto_region 2 with fail
  refine lz (wz2 (.int .u64 (self : Nat)) (.slice a n m) (h := ?_))
  refine kb_call K3.out 53 #[.int .u64 (self : Nat), .slice a n m] (.agg (firstA none)) (by rfl) (by go_simp) (BA.out w3 (HO.out.next K3.out.below)) (py (h := ?_))
  intro w4 K4
  refine kb_alloc K4.out 133 (nilW) rfl z83 (by rfl) (pz (h := ?_))
  intro b5 w5 K5
  refine kb_row K5.out 2 rfl 133 _ _ (firstA none) rfl rfl rfl rfl (size83) (by rfl) (by kernel_rfl) (py (h := ?_))
  intro w6 K6
  refine wpList_nil ?_
  go_upto_region 3 with fail
  rename_i K5 hK5 KZ hKZ
  have HK5 := Lib.hid hK5
  clear hK5
  refine lz (wz4 (.agg (firstA none)) (.agg (nilW)) (.bool false) (.bool false) (h1 := by exact kb_all K6.out 2 rfl 133 _ rfl rfl Tryd.underlying133 rfl (size83)) (h2 := by exact run_build_of 133 [] rfl [] nilW rfl (by kernel_rfl)) (h3 := by have q : ∀ W, (Op.equalIn 10000 133 (.agg (firstA none)) (.agg nilW)).run Tryd.prog W = .ok true W := way_zero; go_simp) (h := wk (h := wk (h := wk (h := wk (h := wk (h := wz1 (.bool false) (h1 := by exact run_pick_no (.tmp 18) (.tmp 23) (.const (.bool false)) _ rfl rfl rfl) (h := nz ?_))))))))
  have HC := Lib.hid (show ChW w self 0 0 b1 b2 (.slice none 0 0) (.slice none 0 0) [] [] w6 from
   ⟨K6.out.below, K6.out.at (i := 0) rfl, K6.out.at (i := 1) rfl, K6.out.new (b1, _, 79) (List.mem_cons_self), K6.out.new (b2, _, 79) (List.mem_cons_of_mem _ List.mem_cons_self), kb_ne K6.out, Own.nil _ _ _ _ _, Own.nil _ _ _ _ _, (fun e => by cases e), (fun e => by cases e), (fun e => by cases e), (fun e => by cases e), (fun _ e => by cases e)⟩)
  go_wp2_with fail
  exact HK5.out _ _ (ch5 self l n m a self 0 0 b1 b2 _ _ _ _ _ _ _ _ _ _ _ _ _ _ _ _ _ _ _ _ _ _ _ _ _ _ _ _ _ _ _ _ _ _ _ _ _ _ _ _ _ _ _ _ _ _ _ _ _ _ _ _ _ _ _ _ _ _ _ _ _ _ _ _ _ _ _ _ _ _ _ _ w w6 B HL.out hn (by omega) HO.out HC.out)
 | some y =>
  by_cases hr : y.2.v.r < self
  case pos =>
   have hri : ((plusV y.2.v y.2.c).r : Int) < (self : Int) := by have e : (plusV y.2.v y.2.c).r = y.2.v.r := rfl; omega
   have erootN : rootN self (some y) = y.2.v.r := if_pos hr
   have ecostN : costN self (some y) = (plusV y.2.v y.2.c).c := if_pos hr
   have eportN : portN self (some y) = ((y.1 : Int) + 1) := if_pos hr
   rw [erootN, ecostN, eportN]
   clear erootN ecostN eportN
   have K := Lib.hid (Kb.nil w)
   go_enter Tryd.func22, Tryd.ntmps22
   go_upto_region 0 with fail
   refine wp_region_lit ?_
   refine kb_alloc K.out 79 (nilCh) rfl z34c (by rfl) (pz (h := ?_))
   intro b1 w1 K1
   refine wpList_nil ?_
   go_upto_region 1 with fail
   refine lz (wz2 (.int .u64 (self : Nat)) (.agg (chA self 0 0 (.slice none 0 0) (.slice none 0 0))) (h2 := by exact run_build_of 79 [(0, .tmp 10)] rfl _ (chA self 0 0 (.slice none 0 0) (.slice none 0 0)) rfl (by kernel_rfl)) (h := ?_))
   refine kb_alloc K1.out 79 (nilCh) rfl z34c (by rfl) (pz (h := ?_))
   intro b2 w2 K2
   refine kb_row K2.out 1 rfl 79 _ _ (chA self 0 0 (.slice none 0 0) (.slice none 0 0)) rfl rfl rfl rfl (size34c) (by rfl) (by kernel_rfl) (py (h := ?_))
   intro w3 K3
   refine wpList_nil ?_
   go_upto_region 2 with fail
   refine lz (wz2 (.int .u64 (self : Nat)) (.slice a n m) (h := ?_))
   refine kb_call K3.out 53 #[.int .u64 (self : Nat), .slice a n m] (.agg (firstA (some y))) (by rfl) (by go_simp) (BA.out w3 (HO.out.next K3.out.below)) (py (h := ?_))
   intro w4 K4
   refine kb_alloc K4.out 133 (nilW) rfl z83 (by rfl) (pz (h := ?_))
   intro b5 w5 K5
   refine kb_row K5.out 2 rfl 133 _ _ (firstA (some y)) rfl rfl rfl rfl (size83) (by rfl) (by kernel_rfl) (py (h := ?_))
   intro w6 K6
   refine wpList_nil ?_
   go_upto_region 3 with fail
   rename_i K5 hK5 KZ hKZ
   have HK5 := Lib.hid hK5
   clear hK5
   refine lz (wz6 (.agg (firstA (some y))) (.agg (nilW)) (.bool true) (.bool true) (pT b5 0) (pT b5 0) (h1 := by exact kb_all K6.out 2 rfl 133 _ rfl rfl Tryd.underlying133 rfl (size83)) (h2 := by exact run_build_of 133 [] rfl [] nilW rfl (by kernel_rfl)) (h3 := by have q : ∀ W, (Op.equalIn 10000 133 (.agg (firstA (some y))) (.agg nilW)).run Tryd.prog W = .ok false W := way_some (plusV y.2.v y.2.c) y.2.i ((y.1 : Int) + 1) (by omega); go_simp) (h := wz4 (.int .u64 ((plusV y.2.v y.2.c).r : Nat)) (.int .u64 (self : Nat)) (.bool true) (.bool true) (h1 := by have q : w6.cell? ⟨b5, 0, none⟩ = some (.int .u64 ((plusV y.2.v y.2.c).r : Nat)) := K6.out.cell (i := 2) rfl (by rfl); go_simp) (h3 := by have q := hri; go_simp) (h4 := by exact run_pick_yes (.tmp 18) (.tmp 23) (.const (.bool false)) _ rfl rfl rfl) (h := nz ?_)))
   go_upto_region 4 with fail
   clear hr hri
   refine rk (fun (_ : Unit) => [pT b5 0, pT b5 0, .int .u64 ((plusV y.2.v y.2.c).r : Nat), pT b5 0, pT b5 1, .int .u32 ((plusV y.2.v y.2.c).c : Nat), pT b5 5, iV ((y.1 : Int) + 1), pT b2 0, undef, pT b2 1, undef, pT b2 2, undef]) (fun _ Lx w' => Kb w [(b1, nilCh, 79), (b2, #[.int .u64 (bif Lx 9 then ((plusV y.2.v y.2.c).r : Nat) else (self : Nat)), .int .u32 (bif Lx 11 then ((plusV y.2.v y.2.c).c : Nat) else 0), iV (bif Lx 13 then ((y.1 : Int) + 1) else 0), .slice none 0 0, .slice none 0 0], 79), (b5, firstA (some y), 133)] w') (()) [] [(2, fun _ => ⟨b5, 0, none⟩), (5, fun _ => ⟨b5, 1, none⟩), (7, fun _ => ⟨b5, 5, none⟩)] [(9, fun _ => [(27, .int .u64 ((plusV y.2.v y.2.c).r : Nat)), (33, pT b2 0)]), (11, fun _ => [(30, .int .u32 ((plusV y.2.v y.2.c).c : Nat)), (34, pT b2 1)]), (13, fun _ => [(32, iV ((y.1 : Int) + 1)), (35, pT b2 2)])] [9, 11, 13] (K6.out.drew) (fun _ Lx w' hw => ⟨fun _ => Kb.cell (i := 2) hw rfl (by rfl), fun _ => Kb.cell (i := 2) hw rfl (by rfl), fun _ => Kb.cell (i := 2) hw rfl (by rfl), trivial⟩) (fun _ L1 L2 _ e h => by (try dsimp only at h ⊢); rw [← e 9 (by decide), ← e 11 (by decide), ← e 13 (by decide)]; exact h) ?_ ?_
   ·
    refine ⟨?_, ?_, ?_, trivial⟩ <;> (rintro _ Lx w' hw hL haft hdc ρ hc hf hG hs o ho; cases ho; try dsimp only [pT, iV, seen] at hw hs)
    ·
     obtain ⟨e27, e33, _⟩ := hs
     exact ss 29 _ _ rfl ⟨b2, 0, none⟩ (.int .u64 ((plusV y.2.v y.2.c).r : Nat)) e33 e27 (kb_run_set hw (i := 1) rfl 29 0 (.int .u64 (bif Lx 9 then ((plusV y.2.v y.2.c).r : Nat) else (self : Nat))) (.int .u64 ((plusV y.2.v y.2.c).r : Nat)) (by rfl) (fun W h1 h2 => by go_simp)) ⟨(), fun _ _ => rfl, rfl, cast_blk (Kb.set (i := 1) hw rfl 0 (.int .u64 ((plusV y.2.v y.2.c).r : Nat))) (by rfl)⟩
    ·
     obtain ⟨e30, e34, _⟩ := hs
     exact ss 36 _ _ rfl ⟨b2, 1, none⟩ (.int .u32 ((plusV y.2.v y.2.c).c : Nat)) e34 e30 (kb_run_set hw (i := 1) rfl 36 1 (.int .u32 (bif Lx 11 then ((plusV y.2.v y.2.c).c : Nat) else 0)) (.int .u32 ((plusV y.2.v y.2.c).c : Nat)) (by rfl) (fun W h1 h2 => by go_simp)) ⟨(), fun _ _ => rfl, rfl, cast_blk (Kb.set (i := 1) hw rfl 1 (.int .u32 ((plusV y.2.v y.2.c).c : Nat))) (by rfl)⟩
    ·
     obtain ⟨e32, e35, _⟩ := hs
     exact ss 3 _ _ rfl ⟨b2, 2, none⟩ (iV ((y.1 : Int) + 1)) e35 e32 (kb_run_set hw (i := 1) rfl 3 2 (iV (bif Lx 13 then ((y.1 : Int) + 1) else 0)) (iV ((y.1 : Int) + 1)) (by rfl) (fun W h1 h2 => by go_simp)) ⟨(), fun _ _ => rfl, rfl, cast_blk (Kb.set (i := 1) hw rfl 2 (iV ((y.1 : Int) + 1))) (by rfl)⟩
   intro _ Lx w7 hw hall
   try dsimp only at hw
   simp only [pT, iV, List.toList_toArray, putsZ_some, putsZ_none, putsZ_nil, List.setIfInBounds_toArray, List.set_cons_zero, List.set_cons_succ]
   have hL9 := hall 9 (by decide)
   have hL11 := hall 11 (by decide)
   have hL13 := hall 13 (by decide)
   simp only [hL9, hL11, hL13, cond_true] at hw
   have K7 := Lib.hid hw
   clear hw hall hL9 hL11 hL13
   have HC := Lib.hid (show ChW w y.2.v.r (plusV y.2.v y.2.c).c ((y.1 : Int) + 1) b1 b2 (.slice none 0 0) (.slice none 0 0) [] [] w7 from
    ⟨K7.out.below, K7.out.at (i := 0) rfl, K7.out.at (i := 1) rfl, K7.out.new (b1, _, 79) (List.mem_cons_self), K7.out.new (b2, _, 79) (List.mem_cons_of_mem _ List.mem_cons_self), kb_ne K7.out, Own.nil _ _ _ _ _, Own.nil _ _ _ _ _, (fun e => by cases e), (fun e => by cases e), (fun e => by cases e), (fun e => by cases e), (fun _ e => by cases e)⟩)
   go_wp2_with fail
   exact HK5.out _ _ (ch5 self l n m a y.2.v.r (plusV y.2.v y.2.c).c ((y.1 : Int) + 1) b1 b2 _ _ _ _ _ _ _ _ _ _ _ _ _ _ _ _ _ _ _ _ _ _ _ _ _ _ _ _ _ _ _ _ _ _ _ _ _ _ _ _ _ _ _ _ _ _ _ _ _ _ _ _ _ _ _ _ _ _ _ _ _ _ _ _ _ _ _ _ _ _ _ _ w w7 B HL.out hn (by have := (BS.out y rfl).1; omega) HO.out HC.out)
  case neg =>
   have hri : ¬ ((plusV y.2.v y.2.c).r : Int) < (self : Int) := by have e : (plusV y.2.v y.2.c).r = y.2.v.r := rfl; omega
   have erootN : rootN self (some y) = self := if_neg hr
   have ecostN : costN self (some y) = 0 := if_neg hr
   have eportN : portN self (some y) = 0 := if_neg hr
   rw [erootN, ecostN, eportN]
   clear erootN ecostN eportN
   have K := Lib.hid (Kb.nil w)
   go_enter Tryd.func22, Tryd.ntmps22
   go_upto_region 0 with fail
   refine wp_region_lit ?_
   refine kb_alloc K.out 79 (nilCh) rfl z34c (by rfl) (pz (h := ?_))
   intro b1 w1 K1
   refine wpList_nil ?_
   go_upto_region 1 with fail
   refine lz (wz2 (.int .u64 (self : Nat)) (.agg (chA self 0 0 (.slice none 0 0) (.slice none 0 0))) (h2 := by exact run_build_of 79 [(0, .tmp 10)] rfl _ (chA self 0 0 (.slice none 0 0) (.slice none 0 0)) rfl (by kernel_rfl)) (h := ?_))
   refine kb_alloc K1.out 79 (nilCh) rfl z34c (by rfl) (pz (h := ?_))
   intro b2 w2 K2
   refine kb_row K2.out 1 rfl 79 _ _ (chA self 0 0 (.slice none 0 0) (.slice none 0 0)) rfl rfl rfl rfl (size34c) (by rfl) (by kernel_rfl) (py (h := ?_))
   intro w3 K3
   refine wpList_nil ?_
   go_upto_region 2 with fail
   refine lz (wz2 (.int .u64 (self : Nat)) (.slice a n m) (h := ?_))
   refine kb_call K3.out 53 #[.int .u64 (self : Nat), .slice a n m] (.agg (firstA (some y))) (by rfl) (by go_simp) (BA.out w3 (HO.out.next K3.out.below)) (py (h := ?_))
   intro w4 K4
   refine kb_alloc K4.out 133 (nilW) rfl z83 (by rfl) (pz (h := ?_))
   intro b5 w5 K5
   refine kb_row K5.out 2 rfl 133 _ _ (firstA (some y)) rfl rfl rfl rfl (size83) (by rfl) (by kernel_rfl) (py (h := ?_))
   intro w6 K6
   refine wpList_nil ?_
   go_upto_region 3 with fail
   rename_i K5 hK5 KZ hKZ
   have HK5 := Lib.hid hK5
   clear hK5
   refine lz (wz6 (.agg (firstA (some y))) (.agg (nilW)) (.bool true) (.bool true) (pT b5 0) (pT b5 0) (h1 := by exact kb_all K6.out 2 rfl 133 _ rfl rfl Tryd.underlying133 rfl (size83)) (h2 := by exact run_build_of 133 [] rfl [] nilW rfl (by kernel_rfl)) (h3 := by have q : ∀ W, (Op.equalIn 10000 133 (.agg (firstA (some y))) (.agg nilW)).run Tryd.prog W = .ok false W := way_some (plusV y.2.v y.2.c) y.2.i ((y.1 : Int) + 1) (by omega); go_simp) (h := wz4 (.int .u64 ((plusV y.2.v y.2.c).r : Nat)) (.int .u64 (self : Nat)) (.bool false) (.bool false) (h1 := by have q : w6.cell? ⟨b5, 0, none⟩ = some (.int .u64 ((plusV y.2.v y.2.c).r : Nat)) := K6.out.cell (i := 2) rfl (by rfl); go_simp) (h3 := by have q := hri; go_simp) (h4 := by exact run_pick_yes (.tmp 18) (.tmp 23) (.const (.bool false)) _ rfl rfl rfl) (h := nz ?_)))
   have HC := Lib.hid (show ChW w self 0 0 b1 b2 (.slice none 0 0) (.slice none 0 0) [] [] w6 from
    ⟨K6.out.below, K6.out.at (i := 0) rfl, K6.out.at (i := 1) rfl, K6.out.new (b1, _, 79) (List.mem_cons_self), K6.out.new (b2, _, 79) (List.mem_cons_of_mem _ List.mem_cons_self), kb_ne K6.out, Own.nil _ _ _ _ _, Own.nil _ _ _ _ _, (fun e => by cases e), (fun e => by cases e), (fun e => by cases e), (fun e => by cases e), (fun _ e => by cases e)⟩)
   go_wp2_with fail
   exact HK5.out _ _ (ch5 self l n m a self 0 0 b1 b2 _ _ _ _ _ _ _ _ _ _ _ _ _ _ _ _ _ _ _ _ _ _ _ _ _ _ _ _ _ _ _ _ _ _ _ _ _ _ _ _ _ _ _ _ _ _ _ _ _ _ _ _ _ _ _ _ _ _ _ _ _ _ _ _ _ _ _ _ _ _ _ _ w w6 B HL.out hn (by omega) HO.out HC.out)
end
section
open Go.RowKit
attribute [local irreducible] wpQuiet wpList
def vecN (x : Po) : Vc := ⟨x.p13.toNat, x.p14.toNat, x.p15.toNat, x.p16.toNat⟩
structure okP (x : Po) : Prop where
 r : 0 ≤ x.p13 ∧ x.p13 < 18446744073709551616
 c : 0 ≤ x.p14 ∧ x.p14 < 4294967296
 b : 0 ≤ x.p15 ∧ x.p15 < 18446744073709551616
 p : 0 ≤ x.p16 ∧ x.p16 < 65536
 k : 0 ≤ x.p3 ∧ x.p3 < 4294967296
def rpN (x : Po) (k : Nat) : Rp := ⟨onP x, decide (x.p12 = 2), vecN x, x.p3.toNat, (idP x ((k : Int) + 1)).toNat⟩
def rpTo (l : List Po) : Nat → List Rp
 | 0 => []
 | k + 1 => match l[k]? with
  | some x => rpTo l k ++ [rpN x k]
  | none => rpTo l k
theorem rpTo_step {l : List Po} {k : Nat} {x : Po} (h : l[k]? = some x) : rpTo l (k + 1) = rpTo l k ++ [rpN x k] := by
 show (match l[k]? with | some x => rpTo l k ++ [rpN x k] | none => rpTo l k) = _
 rw [h]
theorem rpTo_len {l : List Po} : ∀ k, k ≤ l.length → (rpTo l k).length = k
 | 0, _ => rfl
 | k + 1, h => by
  rw [rpTo_step (List.getElem?_eq_getElem (show k < l.length by omega)), List.length_append, rpTo_len k (by omega)]
  rfl
theorem okP_is {x : Po} (h : okP x) : x = { x with p3 := ((x.p3.toNat : Nat) : Int), p13 := ((vecN x).r : Nat), p14 := ((vecN x).c : Nat), p15 := ((vecN x).b : Nat), p16 := ((vecN x).p : Nat) } := by
 obtain ⟨⟨a, -⟩, ⟨b, -⟩, ⟨c, -⟩, ⟨d, -⟩, ⟨e, -⟩⟩ := h
 cases x
 simp only [vecN] at *
 simp only [Int.toNat_of_nonneg a, Int.toNat_of_nonneg b, Int.toNat_of_nonneg c, Int.toNat_of_nonneg d, Int.toNat_of_nonneg e]
theorem idP_is (x : Po) (n : Int) : 0 ≤ idP x n ∧ idP x n < 65536 := by
 unfold idP
 simp only [IntKind.wrap, IntKind.bits, IntKind.signed]
 simp
 omega
theorem rp_one (x : Rp) : ∀ u ∈ rpC x, u.oneCell' = true := by
 intro u hu
 simp [rpC, rpA] at hu
 rcases hu with rfl | rfl | rfl | rfl | rfl | rfl | rfl | rfl <;> rfl
theorem info_rp' : ∃ i z b, Tryd.prog.info? 76 = some i ∧ i.zero = some z ∧ i.size = 8 ∧ i.bytes = b ∧ z.cells.size = 8 ∧ b ≤ 1000 := by
 obtain ⟨i, h1, h3, h4, h5⟩ := info_parts (show (Tryd.prog.info? 76).map (fun i => (i.zero, i.size, i.bytes)) = some (some (.agg nil8), 8, 48) by kernel_rfl)
 exact ⟨i, _, _, h1, h3, h4, h5, rfl, by decide⟩
theorem rpT : ElT Tryd.prog 67 76 8 rpC := ⟨Tryd.underlying67, info_rp', by decide, rp_len, rp_one⟩
set_option maxRecDepth 100000 in
theorem one_rp (x : Rp) : ∀ W : World, (Instr.buildSlice 67 1 #[(0, .agg (rpA x))]).run Tryd.prog W = .ok (.slice (some ⟨W.heap.size, 0, none⟩) 1 1) (W.alloc (.cells (rpA x) 76)) := fun W => by
 unfold rpA
 have u := Tryd.underlying67
 go_simp
theorem built_rp (a b : Bool) (v : Vc) (c i : Nat) : Tryd.prog.built 76 [(0, .bool a), (1, .bool b), (2, .agg (vcA v)), (3, .int .u32 (c : Nat)), (4, .int .u16 (i : Nat))] = some (rpA ⟨a, b, v, c, i⟩) := by kernel_rfl
end
section
open Go.RowKit
def selfN (t : TS) : Nat := t.s.cf.p0.toNat
def rpsOf (t : TS) : List Rp := rpTo t.s.po t.s.po.length
def bestOf (t : TS) : Option (Nat × Rp) := bestU (selfN t) (rpsOf t) t.s.po.length
def rolesOf (t : TS) : List Int := rolesE (selfN t) (rootN (selfN t) (bestOf t)) (costN (selfN t) (bestOf t)) (portN (selfN t) (bestOf t)) (rpsOf t) t.s.po.length
def tellsOf (t : TS) : List Vc := tellsK (selfN t) (rootN (selfN t) (bestOf t)) (costN (selfN t) (bestOf t)) (rpsOf t) t.s.po.length
def asF (t : TS) (k : Nat) (x : Po) : Po := assumeP x (vecN x) ((rolesOf t).getD k 0) ((tellsOf t).getD k ⟨0, 0, 0, 0⟩) t.s.cf.p3
def anewF (t : TS) (k : Nat) (x : Po) : Bool := assumeN x (vecN x) ((rolesOf t).getD k 0) ((tellsOf t).getD k ⟨0, 0, 0, 0⟩)
def openF (t : TS) (k : Nat) (x : Po) : Bool := openedB x (asF t k x)
def chooseM (t : TS) : TS :=
 let t1 := mapTo (asF t) t t.s.po.length
 let o := markTo (openF t) t.s.po t.s.po.length
 let a := markTo (anewF t) t.s.po t.s.po.length
 foldT tellM (foldT changedM t1 o o.length) a a.length
theorem roleN_is (self : Nat) (v : Vc) (x : Rp) : 0 ≤ roleN self v x ∧ roleN self v x ≤ 4 := by
 unfold roleN
 split
 ·
  split
  ·
   split <;> omega
  ·
   omega
 ·
  omega
theorem rolesE_is {self R C : Nat} {P : Int} {l : List Rp} {n : Nat} : ∀ r ∈ rolesE self R C P l n, 0 ≤ r ∧ r ≤ 4 := by
 have hk : ∀ r ∈ rolesK self R C l n, 0 ≤ r ∧ r ≤ 4 := fun r hr => by
  unfold rolesK at hr
  obtain ⟨x, -, rfl⟩ := List.mem_map.1 hr
  exact roleN_is _ _ _
 intro r hr
 unfold rolesE at hr
 split at hr
 ·
  rcases List.mem_or_eq_of_mem_set hr with q | q
  ·
   exact hk r q
  ·
   rw [q]; omega
 ·
  exact hk r hr
theorem rolesOf_is (t : TS) (k : Nat) : 0 ≤ (rolesOf t).getD k 0 ∧ (rolesOf t).getD k 0 ≤ 4 := by
 rw [List.getD_eq_getElem?_getD]
 cases c : (rolesOf t)[k]? with
 | none => exact ⟨Int.le_refl _, by decide⟩
 | some r => exact rolesE_is r (List.mem_of_getElem? c)
theorem assume_role (x : Po) (u : Vc) (r : Int) (v : Vc) (dl : Int) : (assumeP x u r v dl).p10 = r := by
 unfold assumeP
 split
 ·
  rfl
 ·
  split
  ·
   split <;> rfl
  ·
   split
   ·
    rename_i h; exact h.symm
   ·
    rfl
def sameBut (l l' : List Po) : Prop := l.length = l'.length ∧ ∀ (j : Nat) (x : Po), l[j]? = some x → ∃ y : Po, l'[j]? = some y ∧ ∃ h, y = chP x h
theorem sameBut.refl (l : List Po) : sameBut l l := ⟨rfl, fun j x hx => ⟨x, hx, x.p20, rfl⟩⟩
theorem sameBut.trans {a b c : List Po} (h : sameBut a b) (k : sameBut b c) : sameBut a c := ⟨h.1.trans k.1, fun j x hx => by
 obtain ⟨y, hy, p, rfl⟩ := h.2 j x hx
 obtain ⟨z, hz, q, rfl⟩ := k.2 j _ hy
 exact ⟨_, hz, q, rfl⟩⟩
theorem sameBut.set {l : List Po} {k : Nat} {x : Po} (hx : l[k]? = some x) (h : Int) : sameBut l (l.set k (chP x h)) := by
 refine ⟨by rw [List.length_set], fun j y hy => ?_⟩
 by_cases e : k = j
 ·
  subst e
  rw [hx] at hy
  injection hy with hy
  subst hy
  exact ⟨_, List.getElem?_set_self (List.getElem?_eq_some_iff.1 hx).1, h, rfl⟩
 ·
  exact ⟨y, by rw [List.getElem?_set_ne e]; exact hy, y.p20, rfl⟩
theorem chgTo_same (h : Int) (i : Nat) (t : TS) : ∀ k, sameBut t.s.po (chgTo h i t k).s.po
 | 0 => sameBut.refl _
 | k + 1 => by
  refine (chgTo_same h i t k).trans ?_
  show sameBut _ (chgStep h i (chgTo h i t k) k).s.po
  generalize chgTo h i t k = t2
  unfold chgStep
  cases c : t2.s.po[k]? with
  | none => exact sameBut.refl _
  | some x =>
   show sameBut t2.s.po (if k = i ∨ innerB x = false then t2 else (if linkB x = true then t2.setPo (t2.s.po.set k (chP x h)) else t2).flush ((k : Int) + 1)).s.po
   split
   ·
    exact sameBut.refl _
   ·
    split
    ·
     exact sameBut.set c h
    ·
     exact sameBut.refl _
theorem changedM_same (t : TS) (i : Nat) : sameBut t.s.po (changedM t i).s.po := by
 unfold changedM
 cases c : t.s.po[i]? with
 | none => exact sameBut.refl _
 | some x =>
  show sameBut t.s.po (if edgeB x = true then t else chgTo (twoH t) i (t.setPo (t.s.po.set i (chP x (twoH t)))) t.s.po.length).s.po
  split
  ·
   exact sameBut.refl _
  ·
   exact (sameBut.set c (twoH t)).trans (chgTo_same (twoH t) i (t.setPo (t.s.po.set i (chP x (twoH t)))) _)
theorem foldChanged_same (t : TS) (idx : List Nat) : ∀ j, sameBut t.s.po (foldT changedM t idx j).s.po
 | 0 => sameBut.refl _
 | j + 1 => by
  refine (foldChanged_same t idx j).trans ?_
  show sameBut _ (match idx[j]? with | some i => changedM (foldT changedM t idx j) i | none => foldT changedM t idx j).s.po
  split
  ·
   exact changedM_same _ _
  ·
   exact sameBut.refl _
theorem foldTell_is (t : TS) (idx : List Nat) : ∀ j, (foldT tellM t idx j).s = t.s ∧ (foldT tellM t idx j).fl = t.fl ∧ (foldT tellM t idx j).told.length ≤ t.told.length + j
 | 0 => ⟨rfl, rfl, Nat.le_refl _⟩
 | j + 1 => by
  have a := foldTell_is t idx j
  show (match idx[j]? with | some i => tellM (foldT tellM t idx j) i | none => foldT tellM t idx j).s = _ ∧ (match idx[j]? with | some i => tellM (foldT tellM t idx j) i | none => foldT tellM t idx j).fl = _ ∧ (match idx[j]? with | some i => tellM (foldT tellM t idx j) i | none => foldT tellM t idx j).told.length ≤ _
  split
  ·
   rename_i i _
   have b := tellM_is (foldT tellM t idx j) i
   exact ⟨b.1.trans a.1, b.2.1.trans a.2.1, by have := a.2.2; have := b.2.2; omega⟩
  ·
   exact ⟨a.1, a.2.1, by have := a.2.2; omega⟩
end
section
open Go.RowKit
attribute [local irreducible] wpQuiet wpList
structure ChooseOk : Prop where
 ok : ∀ {c : Cs} {tv fv : Value} {t : TS} {w : World}, Tact w c tv fv t → (∀ (k : Nat) (x : Po), t.s.po[k]? = some x → okP x) → (0 ≤ t.s.cf.p0 ∧ t.s.cf.p0 < 18446744073709551616) → t.fl.length + (c.n + 1) * c.n ≤ 1000 → t.told.length + c.n ≤ 1000 →
 Calls Tryd.prog 31 #[.pointer (some ⟨c.b, 0, none⟩)] w fun e w' => e = .returned (.tuple #[]) ∧ Done w c tv fv (chooseM t) w'
theorem Begun.ta {w W w' : World} {s : St} {c : Cs} {l : List (Nat × Array Value × TypeId)} (K : Kb w l W) (h : Begun W s c w') (h0 : 0 < w.heap.size) : Ta ⟨w, c, fun _ => False⟩ l ⟨s, [], []⟩ w' := by
 have hft : ∀ k, foot c (.slice none 0 0) (.slice none 0 0) k → W.heap.size ≤ k := by
  rintro k (e | e | e | e)
  ·
   rw [e]; exact h.new
  ·
   exact (h.own.o1.lt k e).1
  ·
   cases e
  ·
   cases e
 refine ⟨fun x hx => (K.all x hx).below h.below (K.all x hx).lt, K.new, K.nd, Mv.of_below (K.below.trans (h.below.mono K.below.size)), ⟨_, _, h.act, fun x hx hk => ?_, fun k hk => .inr (Nat.le_trans K.below.size (hft k hk))⟩, ⟨fun e => e, h0⟩⟩
 have := hft _ hk
 have := (K.all x hx).lt
 omega
end
section
open Go.RowKit
theorem fadeM_is (t : TS) : (fadeM t).s.po.length = t.s.po.length ∧ (fadeM t).s.cf = t.s.cf ∧ (fadeM t).fl = t.fl ∧ (fadeM t).told = t.told := mapTo_is _ _ _
theorem chooseM_is (t : TS) : (chooseM t).s.po.length = t.s.po.length ∧ (chooseM t).s.cf = t.s.cf ∧ (chooseM t).fl.length ≤ t.fl.length + t.s.po.length * t.s.po.length ∧ (chooseM t).told.length ≤ t.told.length + t.s.po.length := by
 have a := mapTo_is (asF t) t t.s.po.length
 have b := foldChanged_is (mapTo (asF t) t t.s.po.length) (markTo (openF t) t.s.po t.s.po.length) (markTo (openF t) t.s.po t.s.po.length).length
 have c := foldTell_is (foldT changedM (mapTo (asF t) t t.s.po.length) (markTo (openF t) t.s.po t.s.po.length) (markTo (openF t) t.s.po t.s.po.length).length) (markTo (anewF t) t.s.po t.s.po.length) (markTo (anewF t) t.s.po t.s.po.length).length
 have o := (markTo_lt (p := openF t) (l := t.s.po) t.s.po.length).2
 have n := (markTo_lt (p := anewF t) (l := t.s.po) t.s.po.length).2
 refine ⟨?_, ?_, ?_, ?_⟩
 ·
  exact (congrArg (fun z => z.po.length) c.1).trans (b.1.trans a.1)
 ·
  exact (congrArg (fun z => z.cf) c.1).trans (b.2.1.trans a.2.1)
 ·
  have q1 := b.2.2.1
  rw [a.2.2.1, a.1] at q1
  have q2 : (markTo (openF t) t.s.po t.s.po.length).length * t.s.po.length ≤ t.s.po.length * t.s.po.length := Nat.mul_le_mul_right _ o
  have q3 : (chooseM t).fl = (foldT changedM (mapTo (asF t) t t.s.po.length) (markTo (openF t) t.s.po t.s.po.length) (markTo (openF t) t.s.po t.s.po.length).length).fl := c.2.1
  rw [q3]
  omega
 ·
  have q1 := c.2.2
  rw [b.2.2.2, a.2.2.2] at q1
  exact Nat.le_trans q1 (by omega)
theorem stepMM_is (t : TS) : (stepMM t).s.po.length = t.s.po.length ∧ (stepMM t).s.cf = t.s.cf ∧ (stepMM t).fl.length ≤ t.fl.length + t.s.po.length * t.s.po.length ∧ (stepMM t).told = t.told := by
 have a := mapTo_is (stF t.s.cf.p3) t t.s.po.length
 have b := foldChanged_is (mapTo (stF t.s.cf.p3) t t.s.po.length) (markTo (opF t.s.cf.p3) t.s.po t.s.po.length) (markTo (opF t.s.cf.p3) t.s.po t.s.po.length).length
 have o := (markTo_lt (p := opF t.s.cf.p3) (l := t.s.po) t.s.po.length).2
 refine ⟨b.1.trans a.1, b.2.1.trans a.2.1, ?_, b.2.2.2.trans a.2.2.2⟩
 have q1 := b.2.2.1
 rw [a.2.2.1, a.1] at q1
 have q2 : (markTo (opF t.s.cf.p3) t.s.po t.s.po.length).length * t.s.po.length ≤ t.s.po.length * t.s.po.length := Nat.mul_le_mul_right _ o
 exact Nat.le_trans q1 (by omega)
theorem beatM_is (t : TS) : (beatM t).s = t.s ∧ (beatM t).fl = t.fl ∧ (beatM t).told.length ≤ t.told.length + t.s.po.length := beatTo_is t _
end
end Go.Proofs.YteeinlbhcdpnnaaDoor
