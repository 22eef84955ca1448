/- RecordCold: its loop 3. -/
import Derived.Test.YtpbdamnlfpfclaaClD
namespace Go.Proofs.Ytpbdamnlfpfclaa
open Go.RowKit
attribute [local irreducible] wpQuiet
set_option linter.unusedSimpArgs false
set_option linter.unusedVariables false

set_option maxRecDepth 100000 in
set_option maxHeartbeats 16000000 in
theorem c19 (w0 wB : World) (x A5 A6 : Array Value) (vid : Int) (g b5 b6 : Nat) (t : St) (a1 : Option Addr) (n1 c1 : Nat) (d1 : Option Addr) (e1 : Nat) (a2 : Option Addr) (n2 c2 : Nat) (d2 : Option Addr) (e2 : Nat) (a3 : Option Addr) (n3 c3 : Nat) (d3 : Option Addr) (e3 : Nat) (y4 : Value) (HH : Hid (ClH w0 wB x A5 A6 g b5 b6 t a1 n1 c1 d1 e1 a2 n2 c2 d2 e2 a3 n3 c3 d3 e3 y4)) (f3 f4 f7 f8 f9 f10 f11 f12 f13 f14 f15 f16 f17 f18 f19 f20 f21 f22 f23 f24 f25 f26 f27 f28 f29 f30 f31 f32 f33 f34 f35 f36 f37 f38 f39 f40 f41 f42 f43 f44 f45 f46 f47 f48 f49 f50 f51 f52 f53 f54 f55 f56 f57 f58 f59 f60 f61 f62 f63 f64 f65 f66 f67 f68 f69 f70 f71 f72 f73 f74 f75 f76 f77 f78 f79 f80 f81 f82 f83 f84 f85 f86 f87 f88 f89 f90 f91 f92 f93 f94 f95 f96 f97 f98 f99 f100 f101 f102 f103 f104 f105 f106 f107 f108 f109 f110 f111 f112 f113 f114 f115 f116 f117 f118 f119 f120 f121 f122 f123 f124 f125 f126 f127 f128 f129 f130 f131 f132 f133 f134 f135 f136 f137 f138 f139 f140 f141 f142 f143 f144 f145 f146 f147 f148 f149 f150 f151 f152 f153 f154 f155 f156 f157 f158 f159 f160 f161 f162 f163 f164 f165 f166 f167 f168 f169 f170 f171 f172 f173 : Value) (wj : World) (KC : Below wB.heap.size wB wj) :
    Code.wp Try.prog (tail3 19) (bodyPost Try.prog Try.f3 fun e w' => e = .returned (.bool true) ∧ Below w0.heap.size w0 w') { tmps := #[.agg x, .int .i64 vid, .pointer (some ⟨g, 0, none⟩), f3, f4, .pointer (some ⟨b5, 0, none⟩), .pointer (some ⟨b6, 0, none⟩), f7, f8, f9, f10, f11, f12, f13, f14, f15, f16, f17, f18, f19, f20, f21, f22, f23, f24, f25, f26, f27, f28, f29, f30, f31, f32, f33, f34, f35, f36, f37, f38, f39, f40, f41, f42, f43, f44, f45, f46, f47, f48, f49, f50, f51, f52, f53, f54, f55, f56, f57, f58, f59, f60, f61, f62, f63, f64, f65, f66, f67, f68, f69, f70, f71, f72, f73, f74, f75, f76, f77, f78, f79, f80, f81, f82, f83, f84, f85, f86, f87, f88, f89, f90, f91, f92, f93, f94, f95, f96, f97, f98, f99, f100, f101, f102, f103, f104, f105, f106, f107, f108, f109, f110, f111, f112, f113, f114, f115, f116, f117, f118, f119, f120, f121, f122, f123, f124, f125, f126, f127, f128, f129, f130, f131, f132, f133, f134, f135, f136, f137, f138, f139, f140, f141, f142, f143, f144, f145, f146, f147, f148, f149, f150, f151, f152, f153, f154, f155, f156, f157, f158, f159, f160, f161, f162, f163, f164, f165, f166, f167, f168, f169, f170, f171, f172, f173], defers := [] } wj := by
  have K0 := Lib.hid KC
  clear KC
  conv => arg 2; whnf
  conv => arg 4; zeta
  go_upto_region 20 with fail
  rename_i KX hKX
  have HKX := Lib.hid hKX
  clear hKX
  have CA := Lib.hid (own_cap HH.out.o5.o3)
  have CB := Lib.hid (own_cap HH.out.o6.o3)
  have hlc : (n3 : Int) ≤ 9223372036854775807 := by have q1 := CA.out.1; have q2 := CA.out.2; unfold maxLen at *; omega
  go_loopw [12] (fun i wr => ∃ k : Nat, k ≤ n3 ∧ i = .int .i64 k ∧ Below wB.heap.size wB wr) (fun i _ => (n3 - intOf i).toNat)
  case atStart => exact ⟨0, by omega, rfl, K0.out⟩
  case round =>
    obtain ⟨k, hk, rfl, hI⟩ := hrel
    have HI := Lib.hid hI
    clear hI
    have cq := (HH.out.c6 wr HI.out).2.2
    by_cases hlt : k < n3
    · obtain ⟨y, hy⟩ : ∃ y, t.st[k]? = some y := ⟨_, List.getElem?_eq_getElem (show k < t.st.length by rw [← HH.out.l3]; exact hlt)⟩
      have o5 := HH.out.o5.o3
      have o6 := HH.out.o6.o3
      rw [HH.out.l3] at o5 o6
      obtain ⟨p5, r1, -, -, R5⟩ := Own.elem sr_len o5 hy
      obtain ⟨p6, r2, -, -, R6⟩ := Own.elem sr_len o6 (show (coldS t).st[k]? = some y from hy)
      subst r1
      subst r2
      have R5 := Lib.hid R5
      have R6 := Lib.hid R6
      clear o5 o6 hy
      have hkc : k ≤ c3 := by have := CA.out.1; omega
      have hkd : k ≤ e3 := by have := CB.out.1; omega
      have hnc : n3 ≤ c3 := CA.out.1
      have hnd : n3 ≤ e3 := CB.out.1
      have EQ := Lib.hid (show ∀ W, (Op.equalIn 10000 60 (srV y) (srV y)).run Try.prog W = .ok true W from fun W => by rw [equal_sr y y W, eqB_self])
      have CC := Lib.hid (show ∀ W, Below wr.heap.size wr W → W.cell? ⟨b6, 8, none⟩ = some (.slice (some ⟨p6, 0, none⟩) n3 e3) ∧ W.cell? ⟨b5, 8, none⟩ = some (.slice (some ⟨p5, 0, none⟩) n3 c3) from fun W hW => ⟨(HH.out.c6 W (HI.out.trans (hW.mono HI.out.size))).2.2, (HH.out.c5 W (HI.out.trans (hW.mono HI.out.size))).2.2⟩)
      have BE := Lib.hid (show ∀ W, Below wr.heap.size wr W → Below wB.heap.size wB W from fun W hW => HI.out.trans (hW.mono HI.out.size))
      go_upto_region 22 with fail
      refine wp_region_quiet (C := Below wr.heap.size wr) (by kernel_rfl) (by kernel_rfl) (Below.refl _ _).drew ?_
      (refine q_val (v := .pointer (some ⟨b6, 8, none⟩)) (by rfl) ?_ ?_; (· (intro w hC; go_simp; try with_reducible rfl)); (try simp only [Act.put, List.getElem_toArray, List.getElem_cons_succ, List.getElem_cons_zero, List.setIfInBounds_toArray, List.set_cons_zero, List.set_cons_succ]))
      (refine q_val (v := .slice (some ⟨p6, 0, none⟩) n3 e3) (by rfl) ?_ ?_; (· (intro w hC; have q := (CC.out w hC).1; go_simp; try with_reducible rfl)); (try simp only [Act.put, List.getElem_toArray, List.getElem_cons_succ, List.getElem_cons_zero, List.setIfInBounds_toArray, List.set_cons_zero, List.set_cons_succ]))
      (refine q_val (v := .int .i64 (k : Nat)) (by rfl) ?_ ?_; (· (intro w hC; go_simp; try with_reducible rfl)); (try simp only [Act.put, List.getElem_toArray, List.getElem_cons_succ, List.getElem_cons_zero, List.setIfInBounds_toArray, List.set_cons_zero, List.set_cons_succ]))
      (refine q_val (v := .pointer (some ⟨p6, k * 8, none⟩)) (by rfl) ?_ ?_; (· (intro w hC; go_simp; try with_reducible rfl)); (try simp only [Act.put, List.getElem_toArray, List.getElem_cons_succ, List.getElem_cons_zero, List.setIfInBounds_toArray, List.set_cons_zero, List.set_cons_succ]))
      (refine q_val (v := srV y) (by rfl) (fun w hC => run_loadRange 60 _ rfl p6 (k * 8) rfl (srA y) _ (R6.out w (BE.out w hC)) Try.underlying60 rfl (sr_info y)) ?_; (try simp only [Act.put, List.getElem_toArray, List.getElem_cons_succ, List.getElem_cons_zero, List.setIfInBounds_toArray, List.set_cons_zero, List.set_cons_succ]))
      (refine q_val (v := .pointer (some ⟨b5, 8, none⟩)) (by rfl) ?_ ?_; (· (intro w hC; go_simp; try with_reducible rfl)); (try simp only [Act.put, List.getElem_toArray, List.getElem_cons_succ, List.getElem_cons_zero, List.setIfInBounds_toArray, List.set_cons_zero, List.set_cons_succ]))
      (refine q_val (v := .slice (some ⟨p5, 0, none⟩) n3 c3) (by rfl) ?_ ?_; (· (intro w hC; have q := (CC.out w hC).2; go_simp; try with_reducible rfl)); (try simp only [Act.put, List.getElem_toArray, List.getElem_cons_succ, List.getElem_cons_zero, List.setIfInBounds_toArray, List.set_cons_zero, List.set_cons_succ]))
      (refine q_val (v := .int .i64 (k : Nat)) (by rfl) ?_ ?_; (· (intro w hC; go_simp; try with_reducible rfl)); (try simp only [Act.put, List.getElem_toArray, List.getElem_cons_succ, List.getElem_cons_zero, List.setIfInBounds_toArray, List.set_cons_zero, List.set_cons_succ]))
      (refine q_val (v := .pointer (some ⟨p5, k * 8, none⟩)) (by rfl) ?_ ?_; (· (intro w hC; go_simp; try with_reducible rfl)); (try simp only [Act.put, List.getElem_toArray, List.getElem_cons_succ, List.getElem_cons_zero, List.setIfInBounds_toArray, List.set_cons_zero, List.set_cons_succ]))
      (refine q_val (v := srV y) (by rfl) (fun w hC => run_loadRange 60 _ rfl p5 (k * 8) rfl (srA y) _ (R5.out w (BE.out w hC)) Try.underlying60 rfl (sr_info y)) ?_; (try simp only [Act.put, List.getElem_toArray, List.getElem_cons_succ, List.getElem_cons_zero, List.setIfInBounds_toArray, List.set_cons_zero, List.set_cons_succ]))
      (refine q_val (v := .bool false) (by rfl) (fun w hC => by have q := EQ.out; go_simp) ?_; (try simp only [Act.put, List.getElem_toArray, List.getElem_cons_succ, List.getElem_cons_zero, List.setIfInBounds_toArray, List.set_cons_zero, List.set_cons_succ]))
      refine wpQuiet_nil ?_
      intro w5 hC5
      have K5 := Lib.hid (BE.out w5 hC5)
      clear hC5
      go_wp2_with fail
      go_roundw
      case rel => exact ⟨k + 1, by omega, by go_num, K5.out⟩
      case measure => simp [intOf]; omega
    · go_wp2_with fail
      exact HKX.out _ _ (c24 w0 wB x A5 A6 vid g b5 b6 t a1 n1 c1 d1 e1 a2 n2 c2 d2 e2 a3 n3 c3 d3 e3 y4 HH _ _ _ _ _ _ _ _ _ _ _ _ _ _ _ _ _ _ _ _ _ _ _ _ _ _ _ _ _ _ _ _ _ _ _ _ _ _ _ _ _ _ _ _ _ _ _ _ _ _ _ _ _ _ _ _ _ _ _ _ _ _ _ _ _ _ _ _ _ _ _ _ _ _ _ _ _ _ _ _ _ _ _ _ _ _ _ _ _ _ _ _ _ _ _ _ _ _ _ _ _ _ _ _ _ _ _ _ _ _ _ _ _ _ _ _ _ _ _ _ _ _ _ _ _ _ _ _ _ _ _ _ _ _ _ _ _ _ _ _ _ _ _ _ _ _ _ _ _ _ _ _ _ _ _ _ _ _ _ _ _ _ _ _ _ _ _ _ _ wr HI.out)

end Go.Proofs.Ytpbdamnlfpfclaa
