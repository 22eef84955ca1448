/- Made: its loop 2. -/
import Derived.Test.YtpbdamnlfpfclaaMd3
namespace Go.Proofs.Ytpbdamnlfpfclaa
open Go.RowKit
set_option linter.unusedSimpArgs false
set_option linter.unusedVariables false

/-- The slots, while the region runs. -/
structure R9S (x : Array Value) (g c ab off k n mc : Nat) (x0 x1 x2 : Nat) (a : Option Addr) (m : Nat) (f4 f6 f7 f8 f9 f10 f11 f12 f13 f14 f15 f16 f17 f18 f19 f20 f21 f22 f23 f24 f25 f26 f27 f28 f29 f30 f31 f32 f33 f34 f35 f36 f37 f38 f39 f40 f41 f42 f43 f44 f45 f46 f47 f48 f49 f50 f51 f52 f53 f54 f55 f56 f57 f58 f59 f60 f61 f62 f63 f64 f91 f92 f93 f94 f95 f96 f97 f98 f99 f100 f101 f102 f103 f104 f105 f106 f107 f108 f109 f110 f111 f112 f113 f114 f115 f116 f117 f118 f119 f120 f121 f122 f123 f124 f125 f126 f127 f128 f129 f130 f131 f132 f133 f134 f135 f136 f137 f138 f139 f140 f141 f142 f143 f144 f145 f146 f147 f148 f149 f150 f151 f152 f153 f154 f155 f156 f157 f158 f159 f160 f161 f162 f163 f164 f165 f166 f167 f168 f169 f170 f171 f172 f173 f174 f175 f176 : Value) (L : Nat → Bool) (v65 v66 v67 v68 v69 v70 v71 v72 v73 v74 v75 v76 v77 v78 v79 v80 v81 v82 v83 v84 v85 v86 v87 v88 v89 v90 : Value) : Prop where
  e65 : L 0 = true → v65 = .pointer (some ⟨c, 7, none⟩)
  e66 : L 1 = true → v66 = .slice a k m
  e67 : L 2 = true → v67 = .pointer (some ⟨g, 8, none⟩)
  e68 : L 3 = true → v68 = .slice (some ⟨ab, off, none⟩) n mc
  e69 : L 4 = true → v69 = .int .i64 (k : Nat)
  e70 : L 5 = true → v70 = .pointer (some ⟨ab, off + k * 3, none⟩)
  e71 : L 6 = true → v71 = .pointer (some ⟨ab, off + k * 3, none⟩)
  e72 : L 7 = true → v72 = .int .u16 (x0 : Nat)
  e73 : L 8 = true → v73 = .pointer (some ⟨g, 8, none⟩)
  e74 : L 9 = true → v74 = .slice (some ⟨ab, off, none⟩) n mc
  e75 : L 10 = true → v75 = .int .i64 (k : Nat)
  e76 : L 11 = true → v76 = .pointer (some ⟨ab, off + k * 3, none⟩)
  e77 : L 12 = true → v77 = .pointer (some ⟨ab, off + k * 3 + 1, none⟩)
  e78 : L 13 = true → v78 = .int .u16 (x1 : Nat)
  e79 : L 14 = true → v79 = .int .u32 (x1 : Nat)
  e80 : L 15 = true → v80 = .pointer (some ⟨g, 8, none⟩)
  e81 : L 16 = true → v81 = .slice (some ⟨ab, off, none⟩) n mc
  e82 : L 17 = true → v82 = .int .i64 (k : Nat)
  e83 : L 18 = true → v83 = .pointer (some ⟨ab, off + k * 3, none⟩)
  e84 : L 19 = true → v84 = .pointer (some ⟨ab, off + k * 3 + 2, none⟩)
  e85 : L 20 = true → v85 = .int .u16 (x2 : Nat)
  e86 : L 21 = true → v86 = .int .u32 (x2 : Nat)
  e87 : L 22 = true → v87 = vrV (vrOf ⟨x0, x1, x2⟩)
  e90 : L 25 = true → v90 = .pointer (some ⟨c, 7, none⟩)
abbrev R9F (x : Array Value) (g c ab off k n mc : Nat) (x0 x1 x2 : Nat) (a : Option Addr) (m : Nat) (f4 f6 f7 f8 f9 f10 f11 f12 f13 f14 f15 f16 f17 f18 f19 f20 f21 f22 f23 f24 f25 f26 f27 f28 f29 f30 f31 f32 f33 f34 f35 f36 f37 f38 f39 f40 f41 f42 f43 f44 f45 f46 f47 f48 f49 f50 f51 f52 f53 f54 f55 f56 f57 f58 f59 f60 f61 f62 f63 f64 f91 f92 f93 f94 f95 f96 f97 f98 f99 f100 f101 f102 f103 f104 f105 f106 f107 f108 f109 f110 f111 f112 f113 f114 f115 f116 f117 f118 f119 f120 f121 f122 f123 f124 f125 f126 f127 f128 f129 f130 f131 f132 f133 f134 f135 f136 f137 f138 f139 f140 f141 f142 f143 f144 f145 f146 f147 f148 f149 f150 f151 f152 f153 f154 f155 f156 f157 f158 f159 f160 f161 f162 f163 f164 f165 f166 f167 f168 f169 f170 f171 f172 f173 f174 f175 f176 : Value) (v65 v66 v67 v68 v69 v70 v71 v72 v73 v74 v75 v76 v77 v78 v79 v80 v81 v82 v83 v84 v85 v86 v87 v88 v89 v90 : Value) : Act := { tmps := #[.agg x, .pointer (some ⟨g, 0, none⟩), .pointer (some ⟨g + 1, 0, none⟩), .pointer (some ⟨c, 0, none⟩), f4, .int .i64 (k : Nat), f6, f7, f8, f9, f10, f11, f12, f13, f14, f15, f16, f17, f18, f19, f20, f21, f22, f23, f24, f25, f26, f27, f28, f29, f30, f31, f32, f33, f34, f35, f36, f37, f38, f39, f40, f41, f42, f43, f44, f45, f46, f47, f48, f49, f50, f51, f52, f53, f54, f55, f56, f57, f58, f59, f60, f61, f62, f63, f64, v65, v66, v67, v68, v69, v70, v71, v72, v73, v74, v75, v76, v77, v78, v79, v80, v81, v82, v83, v84, v85, v86, v87, v88, v89, v90, f91, f92, f93, f94, f95, f96, f97, f98, f99, f100, f101, f102, f103, f104, f105, f106, f107, f108, f109, f110, f111, f112, f113, f114, f115, f116, f117, f118, f119, f120, f121, f122, f123, f124, f125, f126, f127, f128, f129, f130, f131, f132, f133, f134, f135, f136, f137, f138, f139, f140, f141, f142, f143, f144, f145, f146, f147, f148, f149, f150, f151, f152, f153, f154, f155, f156, f157, f158, f159, f160, f161, f162, f163, f164, f165, f166, f167, f168, f169, f170, f171, f172, f173, f174, f175, f176], defers := [] }
def R9I (x : Array Value) (g c ab off k n mc : Nat) (x0 x1 x2 : Nat) (a : Option Addr) (m : Nat) (f4 f6 f7 f8 f9 f10 f11 f12 f13 f14 f15 f16 f17 f18 f19 f20 f21 f22 f23 f24 f25 f26 f27 f28 f29 f30 f31 f32 f33 f34 f35 f36 f37 f38 f39 f40 f41 f42 f43 f44 f45 f46 f47 f48 f49 f50 f51 f52 f53 f54 f55 f56 f57 f58 f59 f60 f61 f62 f63 f64 f91 f92 f93 f94 f95 f96 f97 f98 f99 f100 f101 f102 f103 f104 f105 f106 f107 f108 f109 f110 f111 f112 f113 f114 f115 f116 f117 f118 f119 f120 f121 f122 f123 f124 f125 f126 f127 f128 f129 f130 f131 f132 f133 f134 f135 f136 f137 f138 f139 f140 f141 f142 f143 f144 f145 f146 f147 f148 f149 f150 f151 f152 f153 f154 f155 f156 f157 f158 f159 f160 f161 f162 f163 f164 f165 f166 f167 f168 f169 f170 f171 f172 f173 f174 f175 f176 : Value) (wb : World) (B3 : Nat) (l : List Vr) (L : Nat → Bool) (ac : Act) (w : World) : Prop :=
  ∃ v65 v66 v67 v68 v69 v70 v71 v72 v73 v74 v75 v76 v77 v78 v79 v80 v81 v82 v83 v84 v85 v86 v87 v88 v89 v90, ac = R9F x g c ab off k n mc x0 x1 x2 a m f4 f6 f7 f8 f9 f10 f11 f12 f13 f14 f15 f16 f17 f18 f19 f20 f21 f22 f23 f24 f25 f26 f27 f28 f29 f30 f31 f32 f33 f34 f35 f36 f37 f38 f39 f40 f41 f42 f43 f44 f45 f46 f47 f48 f49 f50 f51 f52 f53 f54 f55 f56 f57 f58 f59 f60 f61 f62 f63 f64 f91 f92 f93 f94 f95 f96 f97 f98 f99 f100 f101 f102 f103 f104 f105 f106 f107 f108 f109 f110 f111 f112 f113 f114 f115 f116 f117 f118 f119 f120 f121 f122 f123 f124 f125 f126 f127 f128 f129 f130 f131 f132 f133 f134 f135 f136 f137 f138 f139 f140 f141 f142 f143 f144 f145 f146 f147 f148 f149 f150 f151 f152 f153 f154 f155 f156 f157 f158 f159 f160 f161 f162 f163 f164 f165 f166 f167 f168 f169 f170 f171 f172 f173 f174 f175 f176 v65 v66 v67 v68 v69 v70 v71 v72 v73 v74 v75 v76 v77 v78 v79 v80 v81 v82 v83 v84 v85 v86 v87 v88 v89 v90 ∧ R9S x g c ab off k n mc x0 x1 x2 a m f4 f6 f7 f8 f9 f10 f11 f12 f13 f14 f15 f16 f17 f18 f19 f20 f21 f22 f23 f24 f25 f26 f27 f28 f29 f30 f31 f32 f33 f34 f35 f36 f37 f38 f39 f40 f41 f42 f43 f44 f45 f46 f47 f48 f49 f50 f51 f52 f53 f54 f55 f56 f57 f58 f59 f60 f61 f62 f63 f64 f91 f92 f93 f94 f95 f96 f97 f98 f99 f100 f101 f102 f103 f104 f105 f106 f107 f108 f109 f110 f111 f112 f113 f114 f115 f116 f117 f118 f119 f120 f121 f122 f123 f124 f125 f126 f127 f128 f129 f130 f131 f132 f133 f134 f135 f136 f137 f138 f139 f140 f141 f142 f143 f144 f145 f146 f147 f148 f149 f150 f151 f152 f153 f154 f155 f156 f157 f158 f159 f160 f161 f162 f163 f164 f165 f166 f167 f168 f169 f170 f171 f172 f173 f174 f175 f176 L v65 v66 v67 v68 v69 v70 v71 v72 v73 v74 v75 v76 v77 v78 v79 v80 v81 v82 v83 v84 v85 v86 v87 v88 v89 v90 ∧ ApW wb B3 54 3 vrC (.slice a k m) l (vrOf ⟨x0, x1, x2⟩) (L 23) (L 24) v88 v89 w
set_option maxRecDepth 100000 in
set_option maxHeartbeats 16000000 in
theorem md_2 (w0 w1 : World) (x zz : Array Value) (g c : Nat) (s : Sd) (a1 : Option Addr) (n1 m1 : Nat) (a2 : Option Addr) (n2 m2 : Nat) (a3 : Option Addr) (n3 m3 : Nat) (a4 : Option Addr) (n4 m4 : Nat) (HH : Hid (MdH w0 w1 zz g c s a1 n1 m1 a2 n2 m2 a3 n3 m3 a4 n4 m4)) (v1 : Value) (f4 f5 f6 f7 f8 f9 f10 f11 f12 f13 f14 f15 f16 f17 f18 f19 f20 f21 f22 f23 f24 f25 f26 f27 f28 f29 f30 f31 f32 f33 f34 f35 f36 f37 f38 f39 f40 f41 f42 f43 f44 f45 f46 f47 f48 f49 f50 f51 f52 f53 f54 f55 f56 f57 f58 f59 f60 f61 f62 f63 f64 f65 f66 f67 f68 f69 f70 f71 f72 f73 f74 f75 f76 f77 f78 f79 f80 f81 f82 f83 f84 f85 f86 f87 f88 f89 f90 f91 f92 f93 f94 f95 f96 f97 f98 f99 f100 f101 f102 f103 f104 f105 f106 f107 f108 f109 f110 f111 f112 f113 f114 f115 f116 f117 f118 f119 f120 f121 f122 f123 f124 f125 f126 f127 f128 f129 f130 f131 f132 f133 f134 f135 f136 f137 f138 f139 f140 f141 f142 f143 f144 f145 f146 f147 f148 f149 f150 f151 f152 f153 f154 f155 f156 f157 f158 f159 f160 f161 f162 f163 f164 f165 f166 f167 f168 f169 f170 f171 f172 f173 f174 f175 f176 : Value) (wj : World) (KC : MjW w1 c (stK s 16 0 0 0) v1 (.slice none 0 0) (.slice none 0 0) (.slice none 0 0) wj) :
    Code.wp Try.prog (tail6 6) (bodyPost Try.prog Try.f6 fun e w' => ∃ u1 u2 u3 u4, e = .returned (stV (madeS s) u1 u2 u3 u4) ∧ OwS w' w0.heap.size (madeS s) u1 u2 u3 u4 ∧ Below w0.heap.size w0 w') { tmps := #[.agg x, .pointer (some ⟨g, 0, none⟩), .pointer (some ⟨g + 1, 0, none⟩), .pointer (some ⟨c, 0, none⟩), f4, f5, f6, f7, f8, f9, f10, f11, f12, f13, f14, f15, f16, f17, f18, f19, f20, f21, f22, f23, f24, f25, f26, f27, f28, f29, f30, f31, f32, f33, f34, f35, f36, f37, f38, f39, f40, f41, f42, f43, f44, f45, f46, f47, f48, f49, f50, f51, f52, f53, f54, f55, f56, f57, f58, f59, f60, f61, f62, f63, f64, f65, f66, f67, f68, f69, f70, f71, f72, f73, f74, f75, f76, f77, f78, f79, f80, f81, f82, f83, f84, f85, f86, f87, f88, f89, f90, f91, f92, f93, f94, f95, f96, f97, f98, f99, f100, f101, f102, f103, f104, f105, f106, f107, f108, f109, f110, f111, f112, f113, f114, f115, f116, f117, f118, f119, f120, f121, f122, f123, f124, f125, f126, f127, f128, f129, f130, f131, f132, f133, f134, f135, f136, f137, f138, f139, f140, f141, f142, f143, f144, f145, f146, f147, f148, f149, f150, f151, f152, f153, f154, f155, f156, f157, f158, f159, f160, f161, f162, f163, f164, f165, f166, f167, f168, f169, f170, f171, f172, f173, f174, f175, f176], defers := [] } wj := by
  have K0 := Lib.hid KC
  clear KC
  conv => arg 2; whnf
  conv => arg 4; zeta
  have LE1 := Lib.hid (show w1.heap.size ≤ wj.heap.size from K0.out.below.size)
  have CLT := Lib.hid (show c + 1 ≤ wj.heap.size from K0.out.kc.lt)
  have CGE := Lib.hid (show w1.heap.size ≤ c by rw [HH.out.hc]; exact Nat.le_refl _)
  go_upto_region 7 with fail
  rename_i KX hKX
  have HKX := Lib.hid hKX
  clear hKX
  have hlc : (n2 : Int) ≤ 9223372036854775807 := by have q := HH.out.rv.cap; have q1 := q.1; have q2 := q.2; unfold maxLen at *; omega
  go_loopw [5] (fun i wr => ∃ (k : Nat) (a : Option Addr) (m : Nat), k ≤ n2 ∧ k ≤ 16 ∧ i = .int .i64 k ∧ LpW wj c (stK s 16 k 0 0) v1 (.slice a k m) (.slice none 0 0) (.slice none 0 0) 54 3 vrC (.slice a k m) ((s.vs.take k).map vrOf) wr) (fun i _ => (16 - intOf i).toNat)
  case atStart => exact ⟨0, none, 0, by omega, by omega, rfl, ⟨World.grownBy.refl _ _, K0.out.kc, Own.nil _ _ _ _ _⟩⟩
  case round =>
    obtain ⟨k, a, m, hk, hk2, rfl, hI⟩ := hrel
    have HI := Lib.hid hI
    clear hI
    have BL := Lib.hid (show Below w1.heap.size w1 wr from grownBelow K0.out.below HI.out.gr (fun k hk => by injection hk with hk; rw [← hk]; exact CGE.out) LE1.out)
    have cq := (HH.out.cells wr BL.out).2.1
    by_cases hlt : k < n2 ∧ k < 16
    · obtain ⟨h1, h2⟩ := hlt
      obtain ⟨ab, off, y, rfl, hy, hok, hkc, hR⟩ := HH.out.rv.row (w1 := w1) HH.out.below h1
      obtain ⟨hkc, hnc⟩ := hkc
      obtain ⟨x0, x1, x2⟩ := y
      have HR : ∀ W, Below w1.heap.size w1 W → W.cell? ⟨ab, off + k * 3, none⟩ = some (.int .u16 (x0 : Nat)) ∧ W.cell? ⟨ab, off + k * 3 + 1, none⟩ = some (.int .u16 (x1 : Nat)) ∧ W.cell? ⟨ab, off + k * 3 + 2, none⟩ = some (.int .u16 (x2 : Nat)) := fun W hW => ⟨hR W hW 0 _ rfl, hR W hW 1 _ rfl, hR W hW 2 _ rfl⟩
      have E1 := wrap_small32 hok.2.1
      have E2 := wrap_small32 hok.2.2
      have HY := Lib.hid hy
      have SZ := Lib.hid (show wj.heap.size ≤ wr.heap.size from HI.out.gr.size)
      have NCa := Lib.hid (show (Value.slice a k m).ownBlock ≠ some c from own_not HI.out.own CLT.out)
      have KF := Lib.hid (show ∀ W, wr.grownBy W (Value.slice a k m).ownBlock → Blk W c (stA (stK s 16 k 0 0) v1 (.slice a k m) (.slice none 0 0) (.slice none 0 0)) 41 ∧ Below w1.heap.size w1 W from fun W hW =>
        ⟨HI.out.kc.grown hW (fun e => NCa.out e.symm), grownBelow BL.out hW (fun k hk => Nat.le_trans LE1.out (HI.out.own.lt k hk).1) BL.out.size⟩)
      have DL := Lib.hid (show ((s.vs.take k).map vrOf).length ≤ 100 by rw [tm_len (by have := HH.out.rv.len; omega)]; omega)
      clear hy
      go_upto_region 9 with fail
      refine wp_region_lastW 26 (I := R9I x g c ab off k n2 m2 x0 x1 x2 a m _ _ _ _ _ _ _ _ _ _ _ _ _ _ _ _ _ _ _ _ _ _ _ _ _ _ _ _ _ _ _ _ _ _ _ _ _ _ _ _ _ _ _ _ _ _ _ _ _ _ _ _ _ _ _ _ _ _ _ _ _ _ _ _ _ _ _ _ _ _ _ _ _ _ _ _ _ _ _ _ _ _ _ _ _ _ _ _ _ _ _ _ _ _ _ _ _ _ _ _ _ _ _ _ _ _ _ _ _ _ _ _ _ _ _ _ _ _ _ _ _ _ _ _ _ _ _ _ _ _ _ _ _ _ _ _ _ _ _ _ _ _ _ _ _ _ wr wj.heap.size ((s.vs.take k).map vrOf)) (by kernel_rfl) (by kernel_rfl) (by kernel_rfl) ⟨_, _, _, _, _, _, _, _, _, _, _, _, _, _, _, _, _, _, _, _, _, _, _, _, _, _, rfl, ⟨(fun h => Bool.noConfusion h), (fun h => Bool.noConfusion h), (fun h => Bool.noConfusion h), (fun h => Bool.noConfusion h), (fun h => Bool.noConfusion h), (fun h => Bool.noConfusion h), (fun h => Bool.noConfusion h), (fun h => Bool.noConfusion h), (fun h => Bool.noConfusion h), (fun h => Bool.noConfusion h), (fun h => Bool.noConfusion h), (fun h => Bool.noConfusion h), (fun h => Bool.noConfusion h), (fun h => Bool.noConfusion h), (fun h => Bool.noConfusion h), (fun h => Bool.noConfusion h), (fun h => Bool.noConfusion h), (fun h => Bool.noConfusion h), (fun h => Bool.noConfusion h), (fun h => Bool.noConfusion h), (fun h => Bool.noConfusion h), (fun h => Bool.noConfusion h), (fun h => Bool.noConfusion h), (fun h => Bool.noConfusion h)⟩, ApW.start HI.out.own SZ.out⟩ ?_ ?_
      · intro o ho Lx ac w' hI hL haft
        obtain ⟨v65, v66, v67, v68, v69, v70, v71, v72, v73, v74, v75, v76, v77, v78, v79, v80, v81, v82, v83, v84, v85, v86, v87, v88, v89, v90, rfl, hs, hw⟩ := hI
        match o, ho with
        | 0, _ =>
          exact i_val rfl (.pointer (some ⟨c, 7, none⟩)) w' (by rfl) (by go_simp) ⟨(.pointer (some ⟨c, 7, none⟩)), v66, v67, v68, v69, v70, v71, v72, v73, v74, v75, v76, v77, v78, v79, v80, v81, v82, v83, v84, v85, v86, v87, v88, v89, v90, rfl, { hs with e65 := fun _ => rfl }, hw⟩
        | 1, _ =>
          have e65x := hs.e65 (haft 0 (by decide))
          subst e65x
          have q := (st_cells (KF.out w' hw.g).1).2.1
          exact i_val rfl (.slice a k m) w' (by rfl) (by go_simp) ⟨(.pointer (some ⟨c, 7, none⟩)), (.slice a k m), v67, v68, v69, v70, v71, v72, v73, v74, v75, v76, v77, v78, v79, v80, v81, v82, v83, v84, v85, v86, v87, v88, v89, v90, rfl, { hs with e66 := fun _ => rfl }, hw⟩
        | 2, _ =>
          exact i_val rfl (.pointer (some ⟨g, 8, none⟩)) w' (by rfl) (by go_simp) ⟨v65, v66, (.pointer (some ⟨g, 8, none⟩)), v68, v69, v70, v71, v72, v73, v74, v75, v76, v77, v78, v79, v80, v81, v82, v83, v84, v85, v86, v87, v88, v89, v90, rfl, { hs with e67 := fun _ => rfl }, hw⟩
        | 3, _ =>
          have e67x := hs.e67 (haft 2 (by decide))
          subst e67x
          have q := (HH.out.cells w' (KF.out w' hw.g).2).2.1
          exact i_val rfl (.slice (some ⟨ab, off, none⟩) n2 m2) w' (by rfl) (by go_simp) ⟨v65, v66, (.pointer (some ⟨g, 8, none⟩)), (.slice (some ⟨ab, off, none⟩) n2 m2), v69, v70, v71, v72, v73, v74, v75, v76, v77, v78, v79, v80, v81, v82, v83, v84, v85, v86, v87, v88, v89, v90, rfl, { hs with e68 := fun _ => rfl }, hw⟩
        | 4, _ =>
          exact i_val rfl (.int .i64 (k : Nat)) w' (by rfl) (by go_simp) ⟨v65, v66, v67, v68, (.int .i64 (k : Nat)), v70, v71, v72, v73, v74, v75, v76, v77, v78, v79, v80, v81, v82, v83, v84, v85, v86, v87, v88, v89, v90, rfl, { hs with e69 := fun _ => rfl }, hw⟩
        | 5, _ =>
          have e68x := hs.e68 (haft 3 (by decide))
          subst e68x
          have e69x := hs.e69 (haft 4 (by decide))
          subst e69x
          exact i_val rfl (.pointer (some ⟨ab, off + k * 3, none⟩)) w' (by rfl) (by go_simp) ⟨v65, v66, v67, (.slice (some ⟨ab, off, none⟩) n2 m2), (.int .i64 (k : Nat)), (.pointer (some ⟨ab, off + k * 3, none⟩)), v71, v72, v73, v74, v75, v76, v77, v78, v79, v80, v81, v82, v83, v84, v85, v86, v87, v88, v89, v90, rfl, { hs with e70 := fun _ => rfl }, hw⟩
        | 6, _ =>
          have e70x := hs.e70 (haft 5 (by decide))
          subst e70x
          exact i_val rfl (.pointer (some ⟨ab, off + k * 3, none⟩)) w' (by rfl) (by go_simp) ⟨v65, v66, v67, v68, v69, (.pointer (some ⟨ab, off + k * 3, none⟩)), (.pointer (some ⟨ab, off + k * 3, none⟩)), v72, v73, v74, v75, v76, v77, v78, v79, v80, v81, v82, v83, v84, v85, v86, v87, v88, v89, v90, rfl, { hs with e71 := fun _ => rfl }, hw⟩
        | 7, _ =>
          have e71x := hs.e71 (haft 6 (by decide))
          subst e71x
          have q := (HR w' (KF.out w' hw.g).2).1
          exact i_val rfl (.int .u16 (x0 : Nat)) w' (by rfl) (by go_simp) ⟨v65, v66, v67, v68, v69, v70, (.pointer (some ⟨ab, off + k * 3, none⟩)), (.int .u16 (x0 : Nat)), v73, v74, v75, v76, v77, v78, v79, v80, v81, v82, v83, v84, v85, v86, v87, v88, v89, v90, rfl, { hs with e72 := fun _ => rfl }, hw⟩
        | 8, _ =>
          exact i_val rfl (.pointer (some ⟨g, 8, none⟩)) w' (by rfl) (by go_simp) ⟨v65, v66, v67, v68, v69, v70, v71, v72, (.pointer (some ⟨g, 8, none⟩)), v74, v75, v76, v77, v78, v79, v80, v81, v82, v83, v84, v85, v86, v87, v88, v89, v90, rfl, { hs with e73 := fun _ => rfl }, hw⟩
        | 9, _ =>
          have e73x := hs.e73 (haft 8 (by decide))
          subst e73x
          have q := (HH.out.cells w' (KF.out w' hw.g).2).2.1
          exact i_val rfl (.slice (some ⟨ab, off, none⟩) n2 m2) w' (by rfl) (by go_simp) ⟨v65, v66, v67, v68, v69, v70, v71, v72, (.pointer (some ⟨g, 8, none⟩)), (.slice (some ⟨ab, off, none⟩) n2 m2), v75, v76, v77, v78, v79, v80, v81, v82, v83, v84, v85, v86, v87, v88, v89, v90, rfl, { hs with e74 := fun _ => rfl }, hw⟩
        | 10, _ =>
          exact i_val rfl (.int .i64 (k : Nat)) w' (by rfl) (by go_simp) ⟨v65, v66, v67, v68, v69, v70, v71, v72, v73, v74, (.int .i64 (k : Nat)), v76, v77, v78, v79, v80, v81, v82, v83, v84, v85, v86, v87, v88, v89, v90, rfl, { hs with e75 := fun _ => rfl }, hw⟩
        | 11, _ =>
          have e74x := hs.e74 (haft 9 (by decide))
          subst e74x
          have e75x := hs.e75 (haft 10 (by decide))
          subst e75x
          exact i_val rfl (.pointer (some ⟨ab, off + k * 3, none⟩)) w' (by rfl) (by go_simp) ⟨v65, v66, v67, v68, v69, v70, v71, v72, v73, (.slice (some ⟨ab, off, none⟩) n2 m2), (.int .i64 (k : Nat)), (.pointer (some ⟨ab, off + k * 3, none⟩)), v77, v78, v79, v80, v81, v82, v83, v84, v85, v86, v87, v88, v89, v90, rfl, { hs with e76 := fun _ => rfl }, hw⟩
        | 12, _ =>
          have e76x := hs.e76 (haft 11 (by decide))
          subst e76x
          exact i_val rfl (.pointer (some ⟨ab, off + k * 3 + 1, none⟩)) w' (by rfl) (by go_simp) ⟨v65, v66, v67, v68, v69, v70, v71, v72, v73, v74, v75, (.pointer (some ⟨ab, off + k * 3, none⟩)), (.pointer (some ⟨ab, off + k * 3 + 1, none⟩)), v78, v79, v80, v81, v82, v83, v84, v85, v86, v87, v88, v89, v90, rfl, { hs with e77 := fun _ => rfl }, hw⟩
        | 13, _ =>
          have e77x := hs.e77 (haft 12 (by decide))
          subst e77x
          have q := (HR w' (KF.out w' hw.g).2).2.1
          exact i_val rfl (.int .u16 (x1 : Nat)) w' (by rfl) (by go_simp) ⟨v65, v66, v67, v68, v69, v70, v71, v72, v73, v74, v75, v76, (.pointer (some ⟨ab, off + k * 3 + 1, none⟩)), (.int .u16 (x1 : Nat)), v79, v80, v81, v82, v83, v84, v85, v86, v87, v88, v89, v90, rfl, { hs with e78 := fun _ => rfl }, hw⟩
        | 14, _ =>
          have e78x := hs.e78 (haft 13 (by decide))
          subst e78x
          exact i_val rfl (.int .u32 (x1 : Nat)) w' (by rfl) (by go_simp; first | done | exact E1) ⟨v65, v66, v67, v68, v69, v70, v71, v72, v73, v74, v75, v76, v77, (.int .u16 (x1 : Nat)), (.int .u32 (x1 : Nat)), v80, v81, v82, v83, v84, v85, v86, v87, v88, v89, v90, rfl, { hs with e79 := fun _ => rfl }, hw⟩
        | 15, _ =>
          exact i_val rfl (.pointer (some ⟨g, 8, none⟩)) w' (by rfl) (by go_simp) ⟨v65, v66, v67, v68, v69, v70, v71, v72, v73, v74, v75, v76, v77, v78, v79, (.pointer (some ⟨g, 8, none⟩)), v81, v82, v83, v84, v85, v86, v87, v88, v89, v90, rfl, { hs with e80 := fun _ => rfl }, hw⟩
        | 16, _ =>
          have e80x := hs.e80 (haft 15 (by decide))
          subst e80x
          have q := (HH.out.cells w' (KF.out w' hw.g).2).2.1
          exact i_val rfl (.slice (some ⟨ab, off, none⟩) n2 m2) w' (by rfl) (by go_simp) ⟨v65, v66, v67, v68, v69, v70, v71, v72, v73, v74, v75, v76, v77, v78, v79, (.pointer (some ⟨g, 8, none⟩)), (.slice (some ⟨ab, off, none⟩) n2 m2), v82, v83, v84, v85, v86, v87, v88, v89, v90, rfl, { hs with e81 := fun _ => rfl }, hw⟩
        | 17, _ =>
          exact i_val rfl (.int .i64 (k : Nat)) w' (by rfl) (by go_simp) ⟨v65, v66, v67, v68, v69, v70, v71, v72, v73, v74, v75, v76, v77, v78, v79, v80, v81, (.int .i64 (k : Nat)), v83, v84, v85, v86, v87, v88, v89, v90, rfl, { hs with e82 := fun _ => rfl }, hw⟩
        | 18, _ =>
          have e81x := hs.e81 (haft 16 (by decide))
          subst e81x
          have e82x := hs.e82 (haft 17 (by decide))
          subst e82x
          exact i_val rfl (.pointer (some ⟨ab, off + k * 3, none⟩)) w' (by rfl) (by go_simp) ⟨v65, v66, v67, v68, v69, v70, v71, v72, v73, v74, v75, v76, v77, v78, v79, v80, (.slice (some ⟨ab, off, none⟩) n2 m2), (.int .i64 (k : Nat)), (.pointer (some ⟨ab, off + k * 3, none⟩)), v84, v85, v86, v87, v88, v89, v90, rfl, { hs with e83 := fun _ => rfl }, hw⟩
        | 19, _ =>
          have e83x := hs.e83 (haft 18 (by decide))
          subst e83x
          exact i_val rfl (.pointer (some ⟨ab, off + k * 3 + 2, none⟩)) w' (by rfl) (by go_simp) ⟨v65, v66, v67, v68, v69, v70, v71, v72, v73, v74, v75, v76, v77, v78, v79, v80, v81, v82, (.pointer (some ⟨ab, off + k * 3, none⟩)), (.pointer (some ⟨ab, off + k * 3 + 2, none⟩)), v85, v86, v87, v88, v89, v90, rfl, { hs with e84 := fun _ => rfl }, hw⟩
        | 20, _ =>
          have e84x := hs.e84 (haft 19 (by decide))
          subst e84x
          have q := (HR w' (KF.out w' hw.g).2).2.2
          exact i_val rfl (.int .u16 (x2 : Nat)) w' (by rfl) (by go_simp) ⟨v65, v66, v67, v68, v69, v70, v71, v72, v73, v74, v75, v76, v77, v78, v79, v80, v81, v82, v83, (.pointer (some ⟨ab, off + k * 3 + 2, none⟩)), (.int .u16 (x2 : Nat)), v86, v87, v88, v89, v90, rfl, { hs with e85 := fun _ => rfl }, hw⟩
        | 21, _ =>
          have e85x := hs.e85 (haft 20 (by decide))
          subst e85x
          exact i_val rfl (.int .u32 (x2 : Nat)) w' (by rfl) (by go_simp; first | done | exact E2) ⟨v65, v66, v67, v68, v69, v70, v71, v72, v73, v74, v75, v76, v77, v78, v79, v80, v81, v82, v83, v84, (.int .u16 (x2 : Nat)), (.int .u32 (x2 : Nat)), v87, v88, v89, v90, rfl, { hs with e86 := fun _ => rfl }, hw⟩
        | 22, _ =>
          have e72x := hs.e72 (haft 7 (by decide))
          subst e72x
          have e79x := hs.e79 (haft 14 (by decide))
          subst e79x
          have e86x := hs.e86 (haft 21 (by decide))
          subst e86x
          exact i_val rfl (vrV (vrOf ⟨x0, x1, x2⟩)) w' (by rfl) (run_build_of 54 [(0, .tmp 72), (1, .tmp 79), (2, .tmp 86)] rfl _ _ rfl (built_vr x0 x1 x2)) ⟨v65, v66, v67, v68, v69, v70, v71, (.int .u16 (x0 : Nat)), v73, v74, v75, v76, v77, v78, (.int .u32 (x1 : Nat)), v80, v81, v82, v83, v84, v85, (.int .u32 (x2 : Nat)), (vrV (vrOf ⟨x0, x1, x2⟩)), v88, v89, v90, rfl, { hs with e87 := fun _ => rfl }, hw⟩
        | 23, _ =>
          have e87x := hs.e87 (haft 22 (by decide))
          subst e87x
          exact i_val rfl (.slice (some ⟨w'.heap.size, 0, none⟩) 1 1) (w'.alloc (.cells (vrA (vrOf ⟨x0, x1, x2⟩)) 54)) (by rfl) (run_bs1 36 (.tmp 87) rfl (vrV (vrOf ⟨x0, x1, x2⟩)) _ rfl (one_vr (vrOf ⟨x0, x1, x2⟩) w')) ⟨v65, v66, v67, v68, v69, v70, v71, v72, v73, v74, v75, v76, v77, v78, v79, v80, v81, v82, v83, v84, v85, v86, (vrV (vrOf ⟨x0, x1, x2⟩)), (.slice (some ⟨w'.heap.size, 0, none⟩) 1 1), v89, v90, rfl, { hs with }, hw.made vrT hL _ rfl⟩
        | 24, _ =>
          have e66x := hs.e66 (haft 1 (by decide))
          subst e66x
          obtain ⟨u, w2, hrun, hw2⟩ := hw.app vrT (haft 23 (by decide)) hL (by have := DL.out; omega) 36
          have hmk := haft 23 (by decide)
          exact i_wp rfl (by rfl) (wp_append_lst _ _ 36 rfl u w2 hrun ⟨v65, (.slice a k m), v67, v68, v69, v70, v71, v72, v73, v74, v75, v76, v77, v78, v79, v80, v81, v82, v83, v84, v85, v86, v87, v88, u, v90, rfl, { hs with }, by rw [show upd Lx 24 23 = true from hmk]; exact hw2⟩)
        | 25, _ =>
          exact i_val rfl (.pointer (some ⟨c, 7, none⟩)) w' (by rfl) (by go_simp) ⟨v65, v66, v67, v68, v69, v70, v71, v72, v73, v74, v75, v76, v77, v78, v79, v80, v81, v82, v83, v84, v85, v86, v87, v88, v89, (.pointer (some ⟨c, 7, none⟩)), rfl, { hs with e90 := fun _ => rfl }, hw⟩
        | k + 26, h =>
          exfalso
          have h2 : k + 26 < 26 := h
          omega
      intro Lx ac w' hI hall
      obtain ⟨v65, v66, v67, v68, v69, v70, v71, v72, v73, v74, v75, v76, v77, v78, v79, v80, v81, v82, v83, v84, v85, v86, v87, v88, v89, v90, rfl, hs, hw⟩ := hI
      have e65y := hs.e65 (hall 0 (by decide))
      subst e65y
      have e66y := hs.e66 (hall 1 (by decide))
      subst e66y
      have e67y := hs.e67 (hall 2 (by decide))
      subst e67y
      have e68y := hs.e68 (hall 3 (by decide))
      subst e68y
      have e69y := hs.e69 (hall 4 (by decide))
      subst e69y
      have e70y := hs.e70 (hall 5 (by decide))
      subst e70y
      have e71y := hs.e71 (hall 6 (by decide))
      subst e71y
      have e72y := hs.e72 (hall 7 (by decide))
      subst e72y
      have e73y := hs.e73 (hall 8 (by decide))
      subst e73y
      have e74y := hs.e74 (hall 9 (by decide))
      subst e74y
      have e75y := hs.e75 (hall 10 (by decide))
      subst e75y
      have e76y := hs.e76 (hall 11 (by decide))
      subst e76y
      have e77y := hs.e77 (hall 12 (by decide))
      subst e77y
      have e78y := hs.e78 (hall 13 (by decide))
      subst e78y
      have e79y := hs.e79 (hall 14 (by decide))
      subst e79y
      have e80y := hs.e80 (hall 15 (by decide))
      subst e80y
      have e81y := hs.e81 (hall 16 (by decide))
      subst e81y
      have e82y := hs.e82 (hall 17 (by decide))
      subst e82y
      have e83y := hs.e83 (hall 18 (by decide))
      subst e83y
      have e84y := hs.e84 (hall 19 (by decide))
      subst e84y
      have e85y := hs.e85 (hall 20 (by decide))
      subst e85y
      have e86y := hs.e86 (hall 21 (by decide))
      subst e86y
      have e87y := hs.e87 (hall 22 (by decide))
      subst e87y
      have e90y := hs.e90 (hall 25 (by decide))
      subst e90y
      have HA := Lib.hid hw
      rw [hall 23 (by decide), hall 24 (by decide)] at HA
      clear hs hall hw
      have GR := Lib.hid HA.out.g
      have AG := Lib.hid (show wj.grownBy w' (some c) from grown_high HI.out.gr HA.out.g (fun k hk => (HI.out.own.lt k hk).1))
      obtain ⟨q', r', eu, -⟩ := (HA.out.pr rfl).shape
      have OA := Lib.hid (HA.out.pr rfl)
      rw [tm_step HY.out] at eu OA
      rw [tm_len (by have := HH.out.rv.len; omega)] at eu
      subst eu
      have QK := Lib.hid (KF.out w' GR.out).1
      have Q1 := (st_cells QK.out).2.1
      have Q2 := QK.out.free 7
      refine i_skip rfl (w'.setCell ⟨c, 7, none⟩ (.slice q' (k + 1) r')) (by rfl) (by go_simp) ?_
      have KN := Lib.hid (show Blk (w'.setCell ⟨c, 7, none⟩ (.slice q' (k + 1) r')) c (stA (stK s 16 (k + 1) 0 0) v1 (.slice q' (k + 1) r') (.slice none 0 0) (.slice none 0 0)) 41 from QK.out.set 7 _)
      go_wp2_with fail
      go_roundw
      case rel => exact ⟨k + 1, q', r', by omega, by omega, by go_num, ⟨grown_set AG.out, KN.out, OA.out.setCell (a := ⟨c, 7, none⟩) (own_not OA.out CLT.out) _⟩⟩
      case measure => simp [intOf]; omega
    · have NX := Lib.hid (show MjW w1 c (stK s 16 16 0 0) v1 (.slice a k m) (.slice none 0 0) (.slice none 0 0) wr by
        have TS := take_stop HH.out.rv.len hk hk2 hlt
        have HO := HI.out.own
        have HK := HI.out.kc
        rw [TS] at HO
        exact ⟨BL.out, HK, ⟨Own.grown K0.out.own.o1 HI.out.gr (own_not K0.out.own.o1 (Nat.lt_succ_self _)), HO.mono CLT.out, Own.nil _ _ _ _ _, Own.nil _ _ _ _ _, stK_few s (by omega) (by omega) (by omega) (by omega)⟩⟩)
      have HE := Lib.hid (show ¬ (k : Int) < (n2 : Int) ∨ ((k : Int) < (n2 : Int) ∧ ¬ (k : Int) < 16) by omega)
      clear hlt hk hk2
      rcases HE.out with g1 | ⟨g1, g2⟩
      all_goals
        go_wp2_with fail
        exact HKX.out _ _ (md_3 w0 w1 x zz g c s a1 n1 m1 a2 n2 m2 a3 n3 m3 a4 n4 m4 HH v1 (.slice a k m)   _ _ _ _ _ _ _ _ _ _ _ _ _ _ _ _ _ _ _ _ _ _ _ _ _ _ _ _ _ _ _ _ _ _ _ _ _ _ _ _ _ _ _ _ _ _ _ _ _ _ _ _ _ _ _ _ _ _ _ _ _ _ _ _ _ _ _ _ _ _ _ _ _ _ _ _ _ _ _ _ _ _ _ _ _ _ _ _ _ _ _ _ _ _ _ _ _ _ _ _ _ _ _ _ _ _ _ _ _ _ _ _ _ _ _ _ _ _ _ _ _ _ _ _ _ _ _ _ _ _ _ _ _ _ _ _ _ _ _ _ _ _ _ _ _ _ _ _ _ _ _ _ _ _ _ _ _ _ _ _ _ _ _ _ _ _ _ _ _ _ _ _ _ wr NX.out)

end Go.Proofs.Ytpbdamnlfpfclaa
