/- Made: its end. -/
import Derived.Test.YtpbdamnlfpfclaaMdA
namespace Go.Proofs.Ytpbdamnlfpfclaa
open Go.RowKit
set_option linter.unusedSimpArgs false
set_option linter.unusedVariables false

set_option maxRecDepth 100000 in
set_option maxHeartbeats 16000000 in
theorem md_5 (w0 w1 : World) (x zz : Array Value) (g c : Nat) (s : Sd) (a1 : Option Addr) (n1 m1 : Nat) (a2 : Option Addr) (n2 m2 : Nat) (a3 : Option Addr) (n3 m3 : Nat) (a4 : Option Addr) (n4 m4 : Nat) (HH : Hid (MdH w0 w1 zz g c s a1 n1 m1 a2 n2 m2 a3 n3 m3 a4 n4 m4)) (v1 v2 v3 v4 : Value) (f4 f5 f6 f7 f8 f9 f10 f11 f12 f13 f14 f15 f16 f17 f18 f19 f20 f21 f22 f23 f24 f25 f26 f27 f28 f29 f30 f31 f32 f33 f34 f35 f36 f37 f38 f39 f40 f41 f42 f43 f44 f45 f46 f47 f48 f49 f50 f51 f52 f53 f54 f55 f56 f57 f58 f59 f60 f61 f62 f63 f64 f65 f66 f67 f68 f69 f70 f71 f72 f73 f74 f75 f76 f77 f78 f79 f80 f81 f82 f83 f84 f85 f86 f87 f88 f89 f90 f91 f92 f93 f94 f95 f96 f97 f98 f99 f100 f101 f102 f103 f104 f105 f106 f107 f108 f109 f110 f111 f112 f113 f114 f115 f116 f117 f118 f119 f120 f121 f122 f123 f124 f125 f126 f127 f128 f129 f130 f131 f132 f133 f134 f135 f136 f137 f138 f139 f140 f141 f142 f143 f144 f145 f146 f147 f148 f149 f150 f151 f152 f153 f154 f155 f156 f157 f158 f159 f160 f161 f162 f163 f164 f165 f166 f167 f168 f169 f170 f171 f172 f173 f174 f175 f176 : Value) (wj : World) (KC : MjW w1 c (madeS s) v1 v2 v3 v4 wj) :
    Code.wp Try.prog (tail6 18) (bodyPost Try.prog Try.f6 fun e w' => ∃ u1 u2 u3 u4, e = .returned (stV (madeS s) u1 u2 u3 u4) ∧ OwS w' w0.heap.size (madeS s) u1 u2 u3 u4 ∧ Below w0.heap.size w0 w') { tmps := #[.agg x, .pointer (some ⟨g, 0, none⟩), .pointer (some ⟨g + 1, 0, none⟩), .pointer (some ⟨c, 0, none⟩), f4, f5, f6, f7, f8, f9, f10, f11, f12, f13, f14, f15, f16, f17, f18, f19, f20, f21, f22, f23, f24, f25, f26, f27, f28, f29, f30, f31, f32, f33, f34, f35, f36, f37, f38, f39, f40, f41, f42, f43, f44, f45, f46, f47, f48, f49, f50, f51, f52, f53, f54, f55, f56, f57, f58, f59, f60, f61, f62, f63, f64, f65, f66, f67, f68, f69, f70, f71, f72, f73, f74, f75, f76, f77, f78, f79, f80, f81, f82, f83, f84, f85, f86, f87, f88, f89, f90, f91, f92, f93, f94, f95, f96, f97, f98, f99, f100, f101, f102, f103, f104, f105, f106, f107, f108, f109, f110, f111, f112, f113, f114, f115, f116, f117, f118, f119, f120, f121, f122, f123, f124, f125, f126, f127, f128, f129, f130, f131, f132, f133, f134, f135, f136, f137, f138, f139, f140, f141, f142, f143, f144, f145, f146, f147, f148, f149, f150, f151, f152, f153, f154, f155, f156, f157, f158, f159, f160, f161, f162, f163, f164, f165, f166, f167, f168, f169, f170, f171, f172, f173, f174, f175, f176], defers := [] } wj := by
  have K0 := Lib.hid KC
  clear KC
  conv => arg 2; whnf
  conv => arg 4; zeta
  obtain ⟨r, hr⟩ : ∃ r, r = stA (madeS s) v1 v2 v3 v4 := ⟨_, rfl⟩
  have IR := Lib.hid (show (Try.prog.info? 41).map (·.size) = some r.size by rw [hr]; exact st_info _ _ _ _ _)
  have SR := Lib.hid (show r.size = 25 by rw [hr]; rfl)
  have OR := Lib.hid (show r.all (·.oneCell') = true by rw [hr]; exact st_one K0.out.own)
  have KR := Lib.hid (show Blk wj c r 41 by rw [hr]; exact K0.out.kc)
  have Z9 := Lib.hid (show Blk wj (g + 1) zz 41 from HH.out.kz.below K0.out.below HH.out.hz)
  have HR := Lib.hid hr
  clear hr
  go_upto_region 18 with fail
  refine wp_region_lit ?_
  refine wpList_val (.agg r) (by rfl) (run_loadVar_of 41 _ rfl c rfl 41 r _ KR.out Try.underlying41 rfl IR.out) ?_
  (try simp only [Act.put, List.getElem_toArray, List.getElem_cons_succ, List.getElem_cons_zero, List.setIfInBounds_toArray, List.set_cons_zero, List.set_cons_succ])
  refine wpList_store_row rfl 41 _ _ rfl (g + 1) r rfl rfl 41 zz Z9.out IR.out (by rw [HH.out.zs, SR.out]) OR.out ?_
  (try simp only [Act.put, List.getElem_toArray, List.getElem_cons_succ, List.getElem_cons_zero, List.setIfInBounds_toArray, List.set_cons_zero, List.set_cons_succ])
  refine wpList_nil ?_
  go_wp2_with fail
  refine bodyPost_ret (v := .agg r) (results_cell_row Try.results6 _ _ (g + 1) 41 _ (0, 0) _ rfl (Z9.out.row _) Try.underlying41 rfl IR.out) rfl ?_
  have LT := HH.out.hz
  have HC := HH.out.hc
  refine ⟨_, _, _, _, by rw [HR.out], ?_, below_setRow (HH.out.below.trans (K0.out.below.mono HH.out.below.size)) (by rw [← HH.out.hg]; omega) _⟩
  have h := own_row K0.out.own (own_not (g := g + 1) K0.out.own.o1 (by omega)) (own_not (g := g + 1) K0.out.own.o2 (by omega)) (own_not (g := g + 1) K0.out.own.o3 (by omega)) (own_not (g := g + 1) K0.out.own.o4 (by omega)) r
  have LE : w0.heap.size ≤ c + 1 := by rw [← HH.out.hg]; omega
  exact ⟨h.o1.mono LE, h.o2.mono LE, h.o3.mono LE, h.o4.mono LE, h.few⟩

end Go.Proofs.Ytpbdamnlfpfclaa
