/- Made: its loop 4. -/
import Derived.Test.YtpbdamnlfpfclaaMd5
namespace Go.Proofs.Ytpbdamnlfpfclaa
open Go.RowKit
set_option linter.unusedSimpArgs false
set_option linter.unusedVariables false

/-- The slots, while the region runs. -/
structure R17S (x : Array Value) (g c ab off k n mc : Nat) (x0 x1 x2 x3 : Nat) (a : Option Addr) (m : Nat) (f4 f5 f6 f8 f9 f10 f11 f12 f13 f14 f15 f16 f17 f18 f19 f20 f21 f22 f23 f24 f25 f26 f27 f28 f29 f30 f31 f32 f33 f34 f35 f36 f37 f38 f39 f40 f41 f42 f43 f44 f45 f46 f47 f48 f49 f50 f51 f52 f53 f54 f55 f56 f57 f58 f59 f60 f61 f62 f63 f64 f65 f66 f67 f68 f69 f70 f71 f72 f73 f74 f75 f76 f77 f78 f79 f80 f81 f82 f83 f84 f85 f86 f87 f88 f89 f90 f91 f92 f93 f94 f95 f96 f97 f98 f99 f100 f101 f102 f103 f104 f105 f106 f107 f108 f109 f110 f111 f112 f113 f114 f115 f116 f117 f118 f119 f120 f121 f122 f123 f124 f125 f126 f127 f128 f129 f130 f131 f132 f133 f134 f135 f136 f137 f138 f139 f140 f176 : Value) (L : Nat → Bool) (v141 v142 v143 v144 v145 v146 v147 v148 v149 v150 v151 v152 v153 v154 v155 v156 v157 v158 v159 v160 v161 v162 v163 v164 v165 v166 v167 v168 v169 v170 v171 v172 v173 v174 v175 : Value) : Prop where
  e141 : L 0 = true → v141 = .pointer (some ⟨c, 9, none⟩)
  e142 : L 1 = true → v142 = .slice a k m
  e143 : L 2 = true → v143 = .pointer (some ⟨g, 10, none⟩)
  e144 : L 3 = true → v144 = .slice (some ⟨ab, off, none⟩) n mc
  e145 : L 4 = true → v145 = .int .i64 (k : Nat)
  e146 : L 5 = true → v146 = .pointer (some ⟨ab, off + k * 4, none⟩)
  e147 : L 6 = true → v147 = .pointer (some ⟨ab, off + k * 4, none⟩)
  e148 : L 7 = true → v148 = .int .u16 (x0 : Nat)
  e149 : L 8 = true → v149 = .pointer (some ⟨g, 10, none⟩)
  e150 : L 9 = true → v150 = .slice (some ⟨ab, off, none⟩) n mc
  e151 : L 10 = true → v151 = .int .i64 (k : Nat)
  e152 : L 11 = true → v152 = .pointer (some ⟨ab, off + k * 4, none⟩)
  e153 : L 12 = true → v153 = .pointer (some ⟨ab, off + k * 4 + 1, none⟩)
  e154 : L 13 = true → v154 = .int .u16 (x1 : Nat)
  e155 : L 14 = true → v155 = .int .u64 (x1 : Nat)
  e156 : L 15 = true → v156 = mac (byteF x1)
  e157 : L 16 = true → v157 = .agg (keyA x0 x1)
  e158 : L 17 = true → v158 = .pointer (some ⟨g, 10, none⟩)
  e159 : L 18 = true → v159 = .slice (some ⟨ab, off, none⟩) n mc
  e160 : L 19 = true → v160 = .int .i64 (k : Nat)
  e161 : L 20 = true → v161 = .pointer (some ⟨ab, off + k * 4, none⟩)
  e162 : L 21 = true → v162 = .pointer (some ⟨ab, off + k * 4 + 2, none⟩)
  e163 : L 22 = true → v163 = .int .u16 (x2 : Nat)
  e164 : L 23 = true → v164 = .int .i64 (x2 : Nat)
  e165 : L 24 = true → v165 = .pointer (some ⟨g, 10, none⟩)
  e166 : L 25 = true → v166 = .slice (some ⟨ab, off, none⟩) n mc
  e167 : L 26 = true → v167 = .int .i64 (k : Nat)
  e168 : L 27 = true → v168 = .pointer (some ⟨ab, off + k * 4, none⟩)
  e169 : L 28 = true → v169 = .pointer (some ⟨ab, off + k * 4 + 3, none⟩)
  e170 : L 29 = true → v170 = .int .u16 (x3 : Nat)
  e171 : L 30 = true → v171 = .int .i64 (x3 : Nat)
  e172 : L 31 = true → v172 = frV (frOf ⟨x0, x1, x2, x3⟩)
  e175 : L 34 = true → v175 = .pointer (some ⟨c, 9, none⟩)
abbrev R17F (x : Array Value) (g c ab off k n mc : Nat) (x0 x1 x2 x3 : Nat) (a : Option Addr) (m : Nat) (f4 f5 f6 f8 f9 f10 f11 f12 f13 f14 f15 f16 f17 f18 f19 f20 f21 f22 f23 f24 f25 f26 f27 f28 f29 f30 f31 f32 f33 f34 f35 f36 f37 f38 f39 f40 f41 f42 f43 f44 f45 f46 f47 f48 f49 f50 f51 f52 f53 f54 f55 f56 f57 f58 f59 f60 f61 f62 f63 f64 f65 f66 f67 f68 f69 f70 f71 f72 f73 f74 f75 f76 f77 f78 f79 f80 f81 f82 f83 f84 f85 f86 f87 f88 f89 f90 f91 f92 f93 f94 f95 f96 f97 f98 f99 f100 f101 f102 f103 f104 f105 f106 f107 f108 f109 f110 f111 f112 f113 f114 f115 f116 f117 f118 f119 f120 f121 f122 f123 f124 f125 f126 f127 f128 f129 f130 f131 f132 f133 f134 f135 f136 f137 f138 f139 f140 f176 : Value) (v141 v142 v143 v144 v145 v146 v147 v148 v149 v150 v151 v152 v153 v154 v155 v156 v157 v158 v159 v160 v161 v162 v163 v164 v165 v166 v167 v168 v169 v170 v171 v172 v173 v174 v175 : Value) : Act := { tmps := #[.agg x, .pointer (some ⟨g, 0, none⟩), .pointer (some ⟨g + 1, 0, none⟩), .pointer (some ⟨c, 0, none⟩), f4, f5, f6, .int .i64 (k : Nat), f8, f9, f10, f11, f12, f13, f14, f15, f16, f17, f18, f19, f20, f21, f22, f23, f24, f25, f26, f27, f28, f29, f30, f31, f32, f33, f34, f35, f36, f37, f38, f39, f40, f41, f42, f43, f44, f45, f46, f47, f48, f49, f50, f51, f52, f53, f54, f55, f56, f57, f58, f59, f60, f61, f62, f63, f64, f65, f66, f67, f68, f69, f70, f71, f72, f73, f74, f75, f76, f77, f78, f79, f80, f81, f82, f83, f84, f85, f86, f87, f88, f89, f90, f91, f92, f93, f94, f95, f96, f97, f98, f99, f100, f101, f102, f103, f104, f105, f106, f107, f108, f109, f110, f111, f112, f113, f114, f115, f116, f117, f118, f119, f120, f121, f122, f123, f124, f125, f126, f127, f128, f129, f130, f131, f132, f133, f134, f135, f136, f137, f138, f139, f140, v141, v142, v143, v144, v145, v146, v147, v148, v149, v150, v151, v152, v153, v154, v155, v156, v157, v158, v159, v160, v161, v162, v163, v164, v165, v166, v167, v168, v169, v170, v171, v172, v173, v174, v175, f176], defers := [] }
def R17I (x : Array Value) (g c ab off k n mc : Nat) (x0 x1 x2 x3 : Nat) (a : Option Addr) (m : Nat) (f4 f5 f6 f8 f9 f10 f11 f12 f13 f14 f15 f16 f17 f18 f19 f20 f21 f22 f23 f24 f25 f26 f27 f28 f29 f30 f31 f32 f33 f34 f35 f36 f37 f38 f39 f40 f41 f42 f43 f44 f45 f46 f47 f48 f49 f50 f51 f52 f53 f54 f55 f56 f57 f58 f59 f60 f61 f62 f63 f64 f65 f66 f67 f68 f69 f70 f71 f72 f73 f74 f75 f76 f77 f78 f79 f80 f81 f82 f83 f84 f85 f86 f87 f88 f89 f90 f91 f92 f93 f94 f95 f96 f97 f98 f99 f100 f101 f102 f103 f104 f105 f106 f107 f108 f109 f110 f111 f112 f113 f114 f115 f116 f117 f118 f119 f120 f121 f122 f123 f124 f125 f126 f127 f128 f129 f130 f131 f132 f133 f134 f135 f136 f137 f138 f139 f140 f176 : Value) (wb : World) (B3 : Nat) (l : List Fr) (L : Nat → Bool) (ac : Act) (w : World) : Prop :=
  ∃ v141 v142 v143 v144 v145 v146 v147 v148 v149 v150 v151 v152 v153 v154 v155 v156 v157 v158 v159 v160 v161 v162 v163 v164 v165 v166 v167 v168 v169 v170 v171 v172 v173 v174 v175, ac = R17F x g c ab off k n mc x0 x1 x2 x3 a m f4 f5 f6 f8 f9 f10 f11 f12 f13 f14 f15 f16 f17 f18 f19 f20 f21 f22 f23 f24 f25 f26 f27 f28 f29 f30 f31 f32 f33 f34 f35 f36 f37 f38 f39 f40 f41 f42 f43 f44 f45 f46 f47 f48 f49 f50 f51 f52 f53 f54 f55 f56 f57 f58 f59 f60 f61 f62 f63 f64 f65 f66 f67 f68 f69 f70 f71 f72 f73 f74 f75 f76 f77 f78 f79 f80 f81 f82 f83 f84 f85 f86 f87 f88 f89 f90 f91 f92 f93 f94 f95 f96 f97 f98 f99 f100 f101 f102 f103 f104 f105 f106 f107 f108 f109 f110 f111 f112 f113 f114 f115 f116 f117 f118 f119 f120 f121 f122 f123 f124 f125 f126 f127 f128 f129 f130 f131 f132 f133 f134 f135 f136 f137 f138 f139 f140 f176 v141 v142 v143 v144 v145 v146 v147 v148 v149 v150 v151 v152 v153 v154 v155 v156 v157 v158 v159 v160 v161 v162 v163 v164 v165 v166 v167 v168 v169 v170 v171 v172 v173 v174 v175 ∧ R17S x g c ab off k n mc x0 x1 x2 x3 a m f4 f5 f6 f8 f9 f10 f11 f12 f13 f14 f15 f16 f17 f18 f19 f20 f21 f22 f23 f24 f25 f26 f27 f28 f29 f30 f31 f32 f33 f34 f35 f36 f37 f38 f39 f40 f41 f42 f43 f44 f45 f46 f47 f48 f49 f50 f51 f52 f53 f54 f55 f56 f57 f58 f59 f60 f61 f62 f63 f64 f65 f66 f67 f68 f69 f70 f71 f72 f73 f74 f75 f76 f77 f78 f79 f80 f81 f82 f83 f84 f85 f86 f87 f88 f89 f90 f91 f92 f93 f94 f95 f96 f97 f98 f99 f100 f101 f102 f103 f104 f105 f106 f107 f108 f109 f110 f111 f112 f113 f114 f115 f116 f117 f118 f119 f120 f121 f122 f123 f124 f125 f126 f127 f128 f129 f130 f131 f132 f133 f134 f135 f136 f137 f138 f139 f140 f176 L v141 v142 v143 v144 v145 v146 v147 v148 v149 v150 v151 v152 v153 v154 v155 v156 v157 v158 v159 v160 v161 v162 v163 v164 v165 v166 v167 v168 v169 v170 v171 v172 v173 v174 v175 ∧ ApW wb B3 64 9 frC (.slice a k m) l (frOf ⟨x0, x1, x2, x3⟩) (L 32) (L 33) v173 v174 w
set_option maxRecDepth 100000 in
set_option maxHeartbeats 16000000 in
theorem md_4 (w0 w1 : World) (x zz : Array Value) (g c : Nat) (s : Sd) (a1 : Option Addr) (n1 m1 : Nat) (a2 : Option Addr) (n2 m2 : Nat) (a3 : Option Addr) (n3 m3 : Nat) (a4 : Option Addr) (n4 m4 : Nat) (HH : Hid (MdH w0 w1 zz g c s a1 n1 m1 a2 n2 m2 a3 n3 m3 a4 n4 m4)) (v1 v2 v3 : Value) (f4 f5 f6 f7 f8 f9 f10 f11 f12 f13 f14 f15 f16 f17 f18 f19 f20 f21 f22 f23 f24 f25 f26 f27 f28 f29 f30 f31 f32 f33 f34 f35 f36 f37 f38 f39 f40 f41 f42 f43 f44 f45 f46 f47 f48 f49 f50 f51 f52 f53 f54 f55 f56 f57 f58 f59 f60 f61 f62 f63 f64 f65 f66 f67 f68 f69 f70 f71 f72 f73 f74 f75 f76 f77 f78 f79 f80 f81 f82 f83 f84 f85 f86 f87 f88 f89 f90 f91 f92 f93 f94 f95 f96 f97 f98 f99 f100 f101 f102 f103 f104 f105 f106 f107 f108 f109 f110 f111 f112 f113 f114 f115 f116 f117 f118 f119 f120 f121 f122 f123 f124 f125 f126 f127 f128 f129 f130 f131 f132 f133 f134 f135 f136 f137 f138 f139 f140 f141 f142 f143 f144 f145 f146 f147 f148 f149 f150 f151 f152 f153 f154 f155 f156 f157 f158 f159 f160 f161 f162 f163 f164 f165 f166 f167 f168 f169 f170 f171 f172 f173 f174 f175 f176 : Value) (wj : World) (KC : MjW w1 c (stK s 16 16 16 0) v1 v2 v3 (.slice none 0 0) wj) :
    Code.wp Try.prog (tail6 14) (bodyPost Try.prog Try.f6 fun e w' => ∃ u1 u2 u3 u4, e = .returned (stV (madeS s) u1 u2 u3 u4) ∧ OwS w' w0.heap.size (madeS s) u1 u2 u3 u4 ∧ Below w0.heap.size w0 w') { tmps := #[.agg x, .pointer (some ⟨g, 0, none⟩), .pointer (some ⟨g + 1, 0, none⟩), .pointer (some ⟨c, 0, none⟩), f4, f5, f6, f7, f8, f9, f10, f11, f12, f13, f14, f15, f16, f17, f18, f19, f20, f21, f22, f23, f24, f25, f26, f27, f28, f29, f30, f31, f32, f33, f34, f35, f36, f37, f38, f39, f40, f41, f42, f43, f44, f45, f46, f47, f48, f49, f50, f51, f52, f53, f54, f55, f56, f57, f58, f59, f60, f61, f62, f63, f64, f65, f66, f67, f68, f69, f70, f71, f72, f73, f74, f75, f76, f77, f78, f79, f80, f81, f82, f83, f84, f85, f86, f87, f88, f89, f90, f91, f92, f93, f94, f95, f96, f97, f98, f99, f100, f101, f102, f103, f104, f105, f106, f107, f108, f109, f110, f111, f112, f113, f114, f115, f116, f117, f118, f119, f120, f121, f122, f123, f124, f125, f126, f127, f128, f129, f130, f131, f132, f133, f134, f135, f136, f137, f138, f139, f140, f141, f142, f143, f144, f145, f146, f147, f148, f149, f150, f151, f152, f153, f154, f155, f156, f157, f158, f159, f160, f161, f162, f163, f164, f165, f166, f167, f168, f169, f170, f171, f172, f173, f174, f175, f176], defers := [] } wj := by
  have K0 := Lib.hid KC
  clear KC
  conv => arg 2; whnf
  conv => arg 4; zeta
  have LE1 := Lib.hid (show w1.heap.size ≤ wj.heap.size from K0.out.below.size)
  have CLT := Lib.hid (show c + 1 ≤ wj.heap.size from K0.out.kc.lt)
  have CGE := Lib.hid (show w1.heap.size ≤ c by rw [HH.out.hc]; exact Nat.le_refl _)
  go_upto_region 15 with fail
  rename_i KX hKX
  have HKX := Lib.hid hKX
  clear hKX
  have hlc : (n4 : Int) ≤ 9223372036854775807 := by have q := HH.out.rf.cap; have q1 := q.1; have q2 := q.2; unfold maxLen at *; omega
  go_loopw [7] (fun i wr => ∃ (k : Nat) (a : Option Addr) (m : Nat), k ≤ n4 ∧ k ≤ 64 ∧ i = .int .i64 k ∧ LpW wj c (stK s 16 16 16 k) v1 v2 v3 (.slice a k m) 64 9 frC (.slice a k m) ((s.fs.take k).map frOf) wr) (fun i _ => (64 - intOf i).toNat)
  case atStart => exact ⟨0, none, 0, by omega, by omega, rfl, ⟨World.grownBy.refl _ _, K0.out.kc, Own.nil _ _ _ _ _⟩⟩
  case round =>
    obtain ⟨k, a, m, hk, hk2, rfl, hI⟩ := hrel
    have HI := Lib.hid hI
    clear hI
    have BL := Lib.hid (show Below w1.heap.size w1 wr from grownBelow K0.out.below HI.out.gr (fun k hk => by injection hk with hk; rw [← hk]; exact CGE.out) LE1.out)
    have cq := (HH.out.cells wr BL.out).2.2.2
    by_cases hlt : k < n4 ∧ k < 64
    · obtain ⟨h1, h2⟩ := hlt
      obtain ⟨ab, off, y, rfl, hy, hok, hkc, hR⟩ := HH.out.rf.row (w1 := w1) HH.out.below h1
      obtain ⟨hkc, hnc⟩ := hkc
      obtain ⟨x0, x1, x2, x3⟩ := y
      have HR : ∀ W, Below w1.heap.size w1 W → W.cell? ⟨ab, off + k * 4, none⟩ = some (.int .u16 (x0 : Nat)) ∧ W.cell? ⟨ab, off + k * 4 + 1, none⟩ = some (.int .u16 (x1 : Nat)) ∧ W.cell? ⟨ab, off + k * 4 + 2, none⟩ = some (.int .u16 (x2 : Nat)) ∧ W.cell? ⟨ab, off + k * 4 + 3, none⟩ = some (.int .u16 (x3 : Nat)) := fun W hW => ⟨hR W hW 0 _ rfl, hR W hW 1 _ rfl, hR W hW 2 _ rfl, hR W hW 3 _ rfl⟩
      have E1 := wrap_small64 hok.2.1
      have E2 := wrap_smalli hok.2.2.1
      have E3 := wrap_smalli hok.2.2.2
      have HY := Lib.hid hy
      have SZ := Lib.hid (show wj.heap.size ≤ wr.heap.size from HI.out.gr.size)
      have NCa := Lib.hid (show (Value.slice a k m).ownBlock ≠ some c from own_not HI.out.own CLT.out)
      have KF := Lib.hid (show ∀ W, wr.grownBy W (Value.slice a k m).ownBlock → Blk W c (stA (stK s 16 16 16 k) v1 v2 v3 (.slice a k m)) 41 ∧ Below w1.heap.size w1 W from fun W hW =>
        ⟨HI.out.kc.grown hW (fun e => NCa.out e.symm), grownBelow BL.out hW (fun k hk => Nat.le_trans LE1.out (HI.out.own.lt k hk).1) BL.out.size⟩)
      have DL := Lib.hid (show ((s.fs.take k).map frOf).length ≤ 100 by rw [tm_len (by have := HH.out.rf.len; omega)]; omega)
      clear hy
      go_upto_region 17 with fail
      refine wp_region_lastW 35 (I := R17I x g c ab off k n4 m4 x0 x1 x2 x3 a m _ _ _ _ _ _ _ _ _ _ _ _ _ _ _ _ _ _ _ _ _ _ _ _ _ _ _ _ _ _ _ _ _ _ _ _ _ _ _ _ _ _ _ _ _ _ _ _ _ _ _ _ _ _ _ _ _ _ _ _ _ _ _ _ _ _ _ _ _ _ _ _ _ _ _ _ _ _ _ _ _ _ _ _ _ _ _ _ _ _ _ _ _ _ _ _ _ _ _ _ _ _ _ _ _ _ _ _ _ _ _ _ _ _ _ _ _ _ _ _ _ _ _ _ _ _ _ _ _ _ _ _ _ _ _ _ _ wr wj.heap.size ((s.fs.take k).map frOf)) (by kernel_rfl) (by kernel_rfl) (by kernel_rfl) ⟨_, _, _, _, _, _, _, _, _, _, _, _, _, _, _, _, _, _, _, _, _, _, _, _, _, _, _, _, _, _, _, _, _, _, _, rfl, ⟨(fun h => Bool.noConfusion h), (fun h => Bool.noConfusion h), (fun h => Bool.noConfusion h), (fun h => Bool.noConfusion h), (fun h => Bool.noConfusion h), (fun h => Bool.noConfusion h), (fun h => Bool.noConfusion h), (fun h => Bool.noConfusion h), (fun h => Bool.noConfusion h), (fun h => Bool.noConfusion h), (fun h => Bool.noConfusion h), (fun h => Bool.noConfusion h), (fun h => Bool.noConfusion h), (fun h => Bool.noConfusion h), (fun h => Bool.noConfusion h), (fun h => Bool.noConfusion h), (fun h => Bool.noConfusion h), (fun h => Bool.noConfusion h), (fun h => Bool.noConfusion h), (fun h => Bool.noConfusion h), (fun h => Bool.noConfusion h), (fun h => Bool.noConfusion h), (fun h => Bool.noConfusion h), (fun h => Bool.noConfusion h), (fun h => Bool.noConfusion h), (fun h => Bool.noConfusion h), (fun h => Bool.noConfusion h), (fun h => Bool.noConfusion h), (fun h => Bool.noConfusion h), (fun h => Bool.noConfusion h), (fun h => Bool.noConfusion h), (fun h => Bool.noConfusion h), (fun h => Bool.noConfusion h)⟩, ApW.start HI.out.own SZ.out⟩ ?_ ?_
      · intro o ho Lx ac w' hI hL haft
        obtain ⟨v141, v142, v143, v144, v145, v146, v147, v148, v149, v150, v151, v152, v153, v154, v155, v156, v157, v158, v159, v160, v161, v162, v163, v164, v165, v166, v167, v168, v169, v170, v171, v172, v173, v174, v175, rfl, hs, hw⟩ := hI
        match o, ho with
        | 0, _ =>
          exact i_val rfl (.pointer (some ⟨c, 9, none⟩)) w' (by rfl) (by go_simp) ⟨(.pointer (some ⟨c, 9, none⟩)), v142, v143, v144, v145, v146, v147, v148, v149, v150, v151, v152, v153, v154, v155, v156, v157, v158, v159, v160, v161, v162, v163, v164, v165, v166, v167, v168, v169, v170, v171, v172, v173, v174, v175, rfl, { hs with e141 := fun _ => rfl }, hw⟩
        | 1, _ =>
          have e141x := hs.e141 (haft 0 (by decide))
          subst e141x
          have q := (st_cells (KF.out w' hw.g).1).2.2.2.1
          exact i_val rfl (.slice a k m) w' (by rfl) (by go_simp) ⟨(.pointer (some ⟨c, 9, none⟩)), (.slice a k m), v143, v144, v145, v146, v147, v148, v149, v150, v151, v152, v153, v154, v155, v156, v157, v158, v159, v160, v161, v162, v163, v164, v165, v166, v167, v168, v169, v170, v171, v172, v173, v174, v175, rfl, { hs with e142 := fun _ => rfl }, hw⟩
        | 2, _ =>
          exact i_val rfl (.pointer (some ⟨g, 10, none⟩)) w' (by rfl) (by go_simp) ⟨v141, v142, (.pointer (some ⟨g, 10, none⟩)), v144, v145, v146, v147, v148, v149, v150, v151, v152, v153, v154, v155, v156, v157, v158, v159, v160, v161, v162, v163, v164, v165, v166, v167, v168, v169, v170, v171, v172, v173, v174, v175, rfl, { hs with e143 := fun _ => rfl }, hw⟩
        | 3, _ =>
          have e143x := hs.e143 (haft 2 (by decide))
          subst e143x
          have q := (HH.out.cells w' (KF.out w' hw.g).2).2.2.2
          exact i_val rfl (.slice (some ⟨ab, off, none⟩) n4 m4) w' (by rfl) (by go_simp) ⟨v141, v142, (.pointer (some ⟨g, 10, none⟩)), (.slice (some ⟨ab, off, none⟩) n4 m4), v145, v146, v147, v148, v149, v150, v151, v152, v153, v154, v155, v156, v157, v158, v159, v160, v161, v162, v163, v164, v165, v166, v167, v168, v169, v170, v171, v172, v173, v174, v175, rfl, { hs with e144 := fun _ => rfl }, hw⟩
        | 4, _ =>
          exact i_val rfl (.int .i64 (k : Nat)) w' (by rfl) (by go_simp) ⟨v141, v142, v143, v144, (.int .i64 (k : Nat)), v146, v147, v148, v149, v150, v151, v152, v153, v154, v155, v156, v157, v158, v159, v160, v161, v162, v163, v164, v165, v166, v167, v168, v169, v170, v171, v172, v173, v174, v175, rfl, { hs with e145 := fun _ => rfl }, hw⟩
        | 5, _ =>
          have e144x := hs.e144 (haft 3 (by decide))
          subst e144x
          have e145x := hs.e145 (haft 4 (by decide))
          subst e145x
          exact i_val rfl (.pointer (some ⟨ab, off + k * 4, none⟩)) w' (by rfl) (by go_simp) ⟨v141, v142, v143, (.slice (some ⟨ab, off, none⟩) n4 m4), (.int .i64 (k : Nat)), (.pointer (some ⟨ab, off + k * 4, none⟩)), v147, v148, v149, v150, v151, v152, v153, v154, v155, v156, v157, v158, v159, v160, v161, v162, v163, v164, v165, v166, v167, v168, v169, v170, v171, v172, v173, v174, v175, rfl, { hs with e146 := fun _ => rfl }, hw⟩
        | 6, _ =>
          have e146x := hs.e146 (haft 5 (by decide))
          subst e146x
          exact i_val rfl (.pointer (some ⟨ab, off + k * 4, none⟩)) w' (by rfl) (by go_simp) ⟨v141, v142, v143, v144, v145, (.pointer (some ⟨ab, off + k * 4, none⟩)), (.pointer (some ⟨ab, off + k * 4, none⟩)), v148, v149, v150, v151, v152, v153, v154, v155, v156, v157, v158, v159, v160, v161, v162, v163, v164, v165, v166, v167, v168, v169, v170, v171, v172, v173, v174, v175, rfl, { hs with e147 := fun _ => rfl }, hw⟩
        | 7, _ =>
          have e147x := hs.e147 (haft 6 (by decide))
          subst e147x
          have q := (HR w' (KF.out w' hw.g).2).1
          exact i_val rfl (.int .u16 (x0 : Nat)) w' (by rfl) (by go_simp) ⟨v141, v142, v143, v144, v145, v146, (.pointer (some ⟨ab, off + k * 4, none⟩)), (.int .u16 (x0 : Nat)), v149, v150, v151, v152, v153, v154, v155, v156, v157, v158, v159, v160, v161, v162, v163, v164, v165, v166, v167, v168, v169, v170, v171, v172, v173, v174, v175, rfl, { hs with e148 := fun _ => rfl }, hw⟩
        | 8, _ =>
          exact i_val rfl (.pointer (some ⟨g, 10, none⟩)) w' (by rfl) (by go_simp) ⟨v141, v142, v143, v144, v145, v146, v147, v148, (.pointer (some ⟨g, 10, none⟩)), v150, v151, v152, v153, v154, v155, v156, v157, v158, v159, v160, v161, v162, v163, v164, v165, v166, v167, v168, v169, v170, v171, v172, v173, v174, v175, rfl, { hs with e149 := fun _ => rfl }, hw⟩
        | 9, _ =>
          have e149x := hs.e149 (haft 8 (by decide))
          subst e149x
          have q := (HH.out.cells w' (KF.out w' hw.g).2).2.2.2
          exact i_val rfl (.slice (some ⟨ab, off, none⟩) n4 m4) w' (by rfl) (by go_simp) ⟨v141, v142, v143, v144, v145, v146, v147, v148, (.pointer (some ⟨g, 10, none⟩)), (.slice (some ⟨ab, off, none⟩) n4 m4), v151, v152, v153, v154, v155, v156, v157, v158, v159, v160, v161, v162, v163, v164, v165, v166, v167, v168, v169, v170, v171, v172, v173, v174, v175, rfl, { hs with e150 := fun _ => rfl }, hw⟩
        | 10, _ =>
          exact i_val rfl (.int .i64 (k : Nat)) w' (by rfl) (by go_simp) ⟨v141, v142, v143, v144, v145, v146, v147, v148, v149, v150, (.int .i64 (k : Nat)), v152, v153, v154, v155, v156, v157, v158, v159, v160, v161, v162, v163, v164, v165, v166, v167, v168, v169, v170, v171, v172, v173, v174, v175, rfl, { hs with e151 := fun _ => rfl }, hw⟩
        | 11, _ =>
          have e150x := hs.e150 (haft 9 (by decide))
          subst e150x
          have e151x := hs.e151 (haft 10 (by decide))
          subst e151x
          exact i_val rfl (.pointer (some ⟨ab, off + k * 4, none⟩)) w' (by rfl) (by go_simp) ⟨v141, v142, v143, v144, v145, v146, v147, v148, v149, (.slice (some ⟨ab, off, none⟩) n4 m4), (.int .i64 (k : Nat)), (.pointer (some ⟨ab, off + k * 4, none⟩)), v153, v154, v155, v156, v157, v158, v159, v160, v161, v162, v163, v164, v165, v166, v167, v168, v169, v170, v171, v172, v173, v174, v175, rfl, { hs with e152 := fun _ => rfl }, hw⟩
        | 12, _ =>
          have e152x := hs.e152 (haft 11 (by decide))
          subst e152x
          exact i_val rfl (.pointer (some ⟨ab, off + k * 4 + 1, none⟩)) w' (by rfl) (by go_simp) ⟨v141, v142, v143, v144, v145, v146, v147, v148, v149, v150, v151, (.pointer (some ⟨ab, off + k * 4, none⟩)), (.pointer (some ⟨ab, off + k * 4 + 1, none⟩)), v154, v155, v156, v157, v158, v159, v160, v161, v162, v163, v164, v165, v166, v167, v168, v169, v170, v171, v172, v173, v174, v175, rfl, { hs with e153 := fun _ => rfl }, hw⟩
        | 13, _ =>
          have e153x := hs.e153 (haft 12 (by decide))
          subst e153x
          have q := (HR w' (KF.out w' hw.g).2).2.1
          exact i_val rfl (.int .u16 (x1 : Nat)) w' (by rfl) (by go_simp) ⟨v141, v142, v143, v144, v145, v146, v147, v148, v149, v150, v151, v152, (.pointer (some ⟨ab, off + k * 4 + 1, none⟩)), (.int .u16 (x1 : Nat)), v155, v156, v157, v158, v159, v160, v161, v162, v163, v164, v165, v166, v167, v168, v169, v170, v171, v172, v173, v174, v175, rfl, { hs with e154 := fun _ => rfl }, hw⟩
        | 14, _ =>
          have e154x := hs.e154 (haft 13 (by decide))
          subst e154x
          exact i_val rfl (.int .u64 (x1 : Nat)) w' (by rfl) (by go_simp; first | done | exact E1) ⟨v141, v142, v143, v144, v145, v146, v147, v148, v149, v150, v151, v152, v153, (.int .u16 (x1 : Nat)), (.int .u64 (x1 : Nat)), v156, v157, v158, v159, v160, v161, v162, v163, v164, v165, v166, v167, v168, v169, v170, v171, v172, v173, v174, v175, rfl, { hs with e155 := fun _ => rfl }, hw⟩
        | 15, _ =>
          have e155x := hs.e155 (haft 14 (by decide))
          subst e155x
          exact i_call rfl (mac (byteF x1)) 13 #[.int .u64 (x1 : Nat)] (fun w2 => Below w'.heap.size w' w2) (by rfl) (by go_simp) (fromInt_any x1 w') fun w2 hb => ⟨v141, v142, v143, v144, v145, v146, v147, v148, v149, v150, v151, v152, v153, v154, (.int .u64 (x1 : Nat)), (mac (byteF x1)), v157, v158, v159, v160, v161, v162, v163, v164, v165, v166, v167, v168, v169, v170, v171, v172, v173, v174, v175, rfl, { hs with e156 := fun _ => rfl }, hw.next hb⟩
        | 16, _ =>
          have e148x := hs.e148 (haft 7 (by decide))
          subst e148x
          have e156x := hs.e156 (haft 15 (by decide))
          subst e156x
          exact i_val rfl (.agg (keyA x0 x1)) w' (by rfl) (run_build_of 58 [(0, .tmp 148), (1, .tmp 156)] rfl _ _ rfl (built_key x0 x1)) ⟨v141, v142, v143, v144, v145, v146, v147, (.int .u16 (x0 : Nat)), v149, v150, v151, v152, v153, v154, v155, (mac (byteF x1)), (.agg (keyA x0 x1)), v158, v159, v160, v161, v162, v163, v164, v165, v166, v167, v168, v169, v170, v171, v172, v173, v174, v175, rfl, { hs with e157 := fun _ => rfl }, hw⟩
        | 17, _ =>
          exact i_val rfl (.pointer (some ⟨g, 10, none⟩)) w' (by rfl) (by go_simp) ⟨v141, v142, v143, v144, v145, v146, v147, v148, v149, v150, v151, v152, v153, v154, v155, v156, v157, (.pointer (some ⟨g, 10, none⟩)), v159, v160, v161, v162, v163, v164, v165, v166, v167, v168, v169, v170, v171, v172, v173, v174, v175, rfl, { hs with e158 := fun _ => rfl }, hw⟩
        | 18, _ =>
          have e158x := hs.e158 (haft 17 (by decide))
          subst e158x
          have q := (HH.out.cells w' (KF.out w' hw.g).2).2.2.2
          exact i_val rfl (.slice (some ⟨ab, off, none⟩) n4 m4) w' (by rfl) (by go_simp) ⟨v141, v142, v143, v144, v145, v146, v147, v148, v149, v150, v151, v152, v153, v154, v155, v156, v157, (.pointer (some ⟨g, 10, none⟩)), (.slice (some ⟨ab, off, none⟩) n4 m4), v160, v161, v162, v163, v164, v165, v166, v167, v168, v169, v170, v171, v172, v173, v174, v175, rfl, { hs with e159 := fun _ => rfl }, hw⟩
        | 19, _ =>
          exact i_val rfl (.int .i64 (k : Nat)) w' (by rfl) (by go_simp) ⟨v141, v142, v143, v144, v145, v146, v147, v148, v149, v150, v151, v152, v153, v154, v155, v156, v157, v158, v159, (.int .i64 (k : Nat)), v161, v162, v163, v164, v165, v166, v167, v168, v169, v170, v171, v172, v173, v174, v175, rfl, { hs with e160 := fun _ => rfl }, hw⟩
        | 20, _ =>
          have e159x := hs.e159 (haft 18 (by decide))
          subst e159x
          have e160x := hs.e160 (haft 19 (by decide))
          subst e160x
          exact i_val rfl (.pointer (some ⟨ab, off + k * 4, none⟩)) w' (by rfl) (by go_simp) ⟨v141, v142, v143, v144, v145, v146, v147, v148, v149, v150, v151, v152, v153, v154, v155, v156, v157, v158, (.slice (some ⟨ab, off, none⟩) n4 m4), (.int .i64 (k : Nat)), (.pointer (some ⟨ab, off + k * 4, none⟩)), v162, v163, v164, v165, v166, v167, v168, v169, v170, v171, v172, v173, v174, v175, rfl, { hs with e161 := fun _ => rfl }, hw⟩
        | 21, _ =>
          have e161x := hs.e161 (haft 20 (by decide))
          subst e161x
          exact i_val rfl (.pointer (some ⟨ab, off + k * 4 + 2, none⟩)) w' (by rfl) (by go_simp) ⟨v141, v142, v143, v144, v145, v146, v147, v148, v149, v150, v151, v152, v153, v154, v155, v156, v157, v158, v159, v160, (.pointer (some ⟨ab, off + k * 4, none⟩)), (.pointer (some ⟨ab, off + k * 4 + 2, none⟩)), v163, v164, v165, v166, v167, v168, v169, v170, v171, v172, v173, v174, v175, rfl, { hs with e162 := fun _ => rfl }, hw⟩
        | 22, _ =>
          have e162x := hs.e162 (haft 21 (by decide))
          subst e162x
          have q := (HR w' (KF.out w' hw.g).2).2.2.1
          exact i_val rfl (.int .u16 (x2 : Nat)) w' (by rfl) (by go_simp) ⟨v141, v142, v143, v144, v145, v146, v147, v148, v149, v150, v151, v152, v153, v154, v155, v156, v157, v158, v159, v160, v161, (.pointer (some ⟨ab, off + k * 4 + 2, none⟩)), (.int .u16 (x2 : Nat)), v164, v165, v166, v167, v168, v169, v170, v171, v172, v173, v174, v175, rfl, { hs with e163 := fun _ => rfl }, hw⟩
        | 23, _ =>
          have e163x := hs.e163 (haft 22 (by decide))
          subst e163x
          exact i_val rfl (.int .i64 (x2 : Nat)) w' (by rfl) (by go_simp; first | done | exact E2) ⟨v141, v142, v143, v144, v145, v146, v147, v148, v149, v150, v151, v152, v153, v154, v155, v156, v157, v158, v159, v160, v161, v162, (.int .u16 (x2 : Nat)), (.int .i64 (x2 : Nat)), v165, v166, v167, v168, v169, v170, v171, v172, v173, v174, v175, rfl, { hs with e164 := fun _ => rfl }, hw⟩
        | 24, _ =>
          exact i_val rfl (.pointer (some ⟨g, 10, none⟩)) w' (by rfl) (by go_simp) ⟨v141, v142, v143, v144, v145, v146, v147, v148, v149, v150, v151, v152, v153, v154, v155, v156, v157, v158, v159, v160, v161, v162, v163, v164, (.pointer (some ⟨g, 10, none⟩)), v166, v167, v168, v169, v170, v171, v172, v173, v174, v175, rfl, { hs with e165 := fun _ => rfl }, hw⟩
        | 25, _ =>
          have e165x := hs.e165 (haft 24 (by decide))
          subst e165x
          have q := (HH.out.cells w' (KF.out w' hw.g).2).2.2.2
          exact i_val rfl (.slice (some ⟨ab, off, none⟩) n4 m4) w' (by rfl) (by go_simp) ⟨v141, v142, v143, v144, v145, v146, v147, v148, v149, v150, v151, v152, v153, v154, v155, v156, v157, v158, v159, v160, v161, v162, v163, v164, (.pointer (some ⟨g, 10, none⟩)), (.slice (some ⟨ab, off, none⟩) n4 m4), v167, v168, v169, v170, v171, v172, v173, v174, v175, rfl, { hs with e166 := fun _ => rfl }, hw⟩
        | 26, _ =>
          exact i_val rfl (.int .i64 (k : Nat)) w' (by rfl) (by go_simp) ⟨v141, v142, v143, v144, v145, v146, v147, v148, v149, v150, v151, v152, v153, v154, v155, v156, v157, v158, v159, v160, v161, v162, v163, v164, v165, v166, (.int .i64 (k : Nat)), v168, v169, v170, v171, v172, v173, v174, v175, rfl, { hs with e167 := fun _ => rfl }, hw⟩
        | 27, _ =>
          have e166x := hs.e166 (haft 25 (by decide))
          subst e166x
          have e167x := hs.e167 (haft 26 (by decide))
          subst e167x
          exact i_val rfl (.pointer (some ⟨ab, off + k * 4, none⟩)) w' (by rfl) (by go_simp) ⟨v141, v142, v143, v144, v145, v146, v147, v148, v149, v150, v151, v152, v153, v154, v155, v156, v157, v158, v159, v160, v161, v162, v163, v164, v165, (.slice (some ⟨ab, off, none⟩) n4 m4), (.int .i64 (k : Nat)), (.pointer (some ⟨ab, off + k * 4, none⟩)), v169, v170, v171, v172, v173, v174, v175, rfl, { hs with e168 := fun _ => rfl }, hw⟩
        | 28, _ =>
          have e168x := hs.e168 (haft 27 (by decide))
          subst e168x
          exact i_val rfl (.pointer (some ⟨ab, off + k * 4 + 3, none⟩)) w' (by rfl) (by go_simp) ⟨v141, v142, v143, v144, v145, v146, v147, v148, v149, v150, v151, v152, v153, v154, v155, v156, v157, v158, v159, v160, v161, v162, v163, v164, v165, v166, v167, (.pointer (some ⟨ab, off + k * 4, none⟩)), (.pointer (some ⟨ab, off + k * 4 + 3, none⟩)), v170, v171, v172, v173, v174, v175, rfl, { hs with e169 := fun _ => rfl }, hw⟩
        | 29, _ =>
          have e169x := hs.e169 (haft 28 (by decide))
          subst e169x
          have q := (HR w' (KF.out w' hw.g).2).2.2.2
          exact i_val rfl (.int .u16 (x3 : Nat)) w' (by rfl) (by go_simp) ⟨v141, v142, v143, v144, v145, v146, v147, v148, v149, v150, v151, v152, v153, v154, v155, v156, v157, v158, v159, v160, v161, v162, v163, v164, v165, v166, v167, v168, (.pointer (some ⟨ab, off + k * 4 + 3, none⟩)), (.int .u16 (x3 : Nat)), v171, v172, v173, v174, v175, rfl, { hs with e170 := fun _ => rfl }, hw⟩
        | 30, _ =>
          have e170x := hs.e170 (haft 29 (by decide))
          subst e170x
          exact i_val rfl (.int .i64 (x3 : Nat)) w' (by rfl) (by go_simp; first | done | exact E3) ⟨v141, v142, v143, v144, v145, v146, v147, v148, v149, v150, v151, v152, v153, v154, v155, v156, v157, v158, v159, v160, v161, v162, v163, v164, v165, v166, v167, v168, v169, (.int .u16 (x3 : Nat)), (.int .i64 (x3 : Nat)), v172, v173, v174, v175, rfl, { hs with e171 := fun _ => rfl }, hw⟩
        | 31, _ =>
          have e157x := hs.e157 (haft 16 (by decide))
          subst e157x
          have e164x := hs.e164 (haft 23 (by decide))
          subst e164x
          have e171x := hs.e171 (haft 30 (by decide))
          subst e171x
          exact i_val rfl (frV (frOf ⟨x0, x1, x2, x3⟩)) w' (by rfl) (run_build_of 64 [(0, .tmp 157), (1, .tmp 164), (2, .tmp 171)] rfl _ _ rfl (built_fr x0 x1 x2 x3)) ⟨v141, v142, v143, v144, v145, v146, v147, v148, v149, v150, v151, v152, v153, v154, v155, v156, (.agg (keyA x0 x1)), v158, v159, v160, v161, v162, v163, (.int .i64 (x2 : Nat)), v165, v166, v167, v168, v169, v170, (.int .i64 (x3 : Nat)), (frV (frOf ⟨x0, x1, x2, x3⟩)), v173, v174, v175, rfl, { hs with e172 := fun _ => rfl }, hw⟩
        | 32, _ =>
          have e172x := hs.e172 (haft 31 (by decide))
          subst e172x
          exact i_val rfl (.slice (some ⟨w'.heap.size, 0, none⟩) 1 1) (w'.alloc (.cells (frA (frOf ⟨x0, x1, x2, x3⟩)) 64)) (by rfl) (run_bs1 38 (.tmp 172) rfl (frV (frOf ⟨x0, x1, x2, x3⟩)) _ rfl (one_fr (frOf ⟨x0, x1, x2, x3⟩) w')) ⟨v141, v142, v143, v144, v145, v146, v147, v148, v149, v150, v151, v152, v153, v154, v155, v156, v157, v158, v159, v160, v161, v162, v163, v164, v165, v166, v167, v168, v169, v170, v171, (frV (frOf ⟨x0, x1, x2, x3⟩)), (.slice (some ⟨w'.heap.size, 0, none⟩) 1 1), v174, v175, rfl, { hs with }, hw.made frT hL _ rfl⟩
        | 33, _ =>
          have e142x := hs.e142 (haft 1 (by decide))
          subst e142x
          obtain ⟨u, w2, hrun, hw2⟩ := hw.app frT (haft 32 (by decide)) hL (by have := DL.out; omega) 38
          have hmk := haft 32 (by decide)
          exact i_wp rfl (by rfl) (wp_append_lst _ _ 38 rfl u w2 hrun ⟨v141, (.slice a k m), v143, v144, v145, v146, v147, v148, v149, v150, v151, v152, v153, v154, v155, v156, v157, v158, v159, v160, v161, v162, v163, v164, v165, v166, v167, v168, v169, v170, v171, v172, v173, u, v175, rfl, { hs with }, by rw [show upd Lx 33 32 = true from hmk]; exact hw2⟩)
        | 34, _ =>
          exact i_val rfl (.pointer (some ⟨c, 9, none⟩)) w' (by rfl) (by go_simp) ⟨v141, v142, v143, v144, v145, v146, v147, v148, v149, v150, v151, v152, v153, v154, v155, v156, v157, v158, v159, v160, v161, v162, v163, v164, v165, v166, v167, v168, v169, v170, v171, v172, v173, v174, (.pointer (some ⟨c, 9, none⟩)), rfl, { hs with e175 := fun _ => rfl }, hw⟩
        | k + 35, h =>
          exfalso
          have h2 : k + 35 < 35 := h
          omega
      intro Lx ac w' hI hall
      obtain ⟨v141, v142, v143, v144, v145, v146, v147, v148, v149, v150, v151, v152, v153, v154, v155, v156, v157, v158, v159, v160, v161, v162, v163, v164, v165, v166, v167, v168, v169, v170, v171, v172, v173, v174, v175, rfl, hs, hw⟩ := hI
      have e141y := hs.e141 (hall 0 (by decide))
      subst e141y
      have e142y := hs.e142 (hall 1 (by decide))
      subst e142y
      have e143y := hs.e143 (hall 2 (by decide))
      subst e143y
      have e144y := hs.e144 (hall 3 (by decide))
      subst e144y
      have e145y := hs.e145 (hall 4 (by decide))
      subst e145y
      have e146y := hs.e146 (hall 5 (by decide))
      subst e146y
      have e147y := hs.e147 (hall 6 (by decide))
      subst e147y
      have e148y := hs.e148 (hall 7 (by decide))
      subst e148y
      have e149y := hs.e149 (hall 8 (by decide))
      subst e149y
      have e150y := hs.e150 (hall 9 (by decide))
      subst e150y
      have e151y := hs.e151 (hall 10 (by decide))
      subst e151y
      have e152y := hs.e152 (hall 11 (by decide))
      subst e152y
      have e153y := hs.e153 (hall 12 (by decide))
      subst e153y
      have e154y := hs.e154 (hall 13 (by decide))
      subst e154y
      have e155y := hs.e155 (hall 14 (by decide))
      subst e155y
      have e156y := hs.e156 (hall 15 (by decide))
      subst e156y
      have e157y := hs.e157 (hall 16 (by decide))
      subst e157y
      have e158y := hs.e158 (hall 17 (by decide))
      subst e158y
      have e159y := hs.e159 (hall 18 (by decide))
      subst e159y
      have e160y := hs.e160 (hall 19 (by decide))
      subst e160y
      have e161y := hs.e161 (hall 20 (by decide))
      subst e161y
      have e162y := hs.e162 (hall 21 (by decide))
      subst e162y
      have e163y := hs.e163 (hall 22 (by decide))
      subst e163y
      have e164y := hs.e164 (hall 23 (by decide))
      subst e164y
      have e165y := hs.e165 (hall 24 (by decide))
      subst e165y
      have e166y := hs.e166 (hall 25 (by decide))
      subst e166y
      have e167y := hs.e167 (hall 26 (by decide))
      subst e167y
      have e168y := hs.e168 (hall 27 (by decide))
      subst e168y
      have e169y := hs.e169 (hall 28 (by decide))
      subst e169y
      have e170y := hs.e170 (hall 29 (by decide))
      subst e170y
      have e171y := hs.e171 (hall 30 (by decide))
      subst e171y
      have e172y := hs.e172 (hall 31 (by decide))
      subst e172y
      have e175y := hs.e175 (hall 34 (by decide))
      subst e175y
      have HA := Lib.hid hw
      rw [hall 32 (by decide), hall 33 (by decide)] at HA
      clear hs hall hw
      have GR := Lib.hid HA.out.g
      have AG := Lib.hid (show wj.grownBy w' (some c) from grown_high HI.out.gr HA.out.g (fun k hk => (HI.out.own.lt k hk).1))
      obtain ⟨q', r', eu, -⟩ := (HA.out.pr rfl).shape
      have OA := Lib.hid (HA.out.pr rfl)
      rw [tm_step HY.out] at eu OA
      rw [tm_len (by have := HH.out.rf.len; omega)] at eu
      subst eu
      have QK := Lib.hid (KF.out w' GR.out).1
      have Q1 := (st_cells QK.out).2.2.2.1
      have Q2 := QK.out.free 9
      refine i_skip rfl (w'.setCell ⟨c, 9, none⟩ (.slice q' (k + 1) r')) (by rfl) (by go_simp) ?_
      have KN := Lib.hid (show Blk (w'.setCell ⟨c, 9, none⟩ (.slice q' (k + 1) r')) c (stA (stK s 16 16 16 (k + 1)) v1 v2 v3 (.slice q' (k + 1) r')) 41 from QK.out.set 9 _)
      go_wp2_with fail
      go_roundw
      case rel => exact ⟨k + 1, q', r', by omega, by omega, by go_num, ⟨grown_set AG.out, KN.out, OA.out.setCell (a := ⟨c, 9, none⟩) (own_not OA.out CLT.out) _⟩⟩
      case measure => simp [intOf]; omega
    · have NX := Lib.hid (show MjW w1 c (stK s 16 16 16 64) v1 v2 v3 (.slice a k m) wr by
        have TS := take_stop HH.out.rf.len hk hk2 hlt
        have HO := HI.out.own
        have HK := HI.out.kc
        rw [TS] at HO
        exact ⟨BL.out, HK, ⟨Own.grown K0.out.own.o1 HI.out.gr (own_not K0.out.own.o1 (Nat.lt_succ_self _)), Own.grown K0.out.own.o2 HI.out.gr (own_not K0.out.own.o2 (Nat.lt_succ_self _)), Own.grown K0.out.own.o3 HI.out.gr (own_not K0.out.own.o3 (Nat.lt_succ_self _)), HO.mono CLT.out, stK_few s (by omega) (by omega) (by omega) (by omega)⟩⟩)
      have HE := Lib.hid (show ¬ (k : Int) < (n4 : Int) ∨ ((k : Int) < (n4 : Int) ∧ ¬ (k : Int) < 64) by omega)
      clear hlt hk hk2
      rcases HE.out with g1 | ⟨g1, g2⟩
      all_goals
        go_wp2_with fail
        exact HKX.out _ _ (md_5 w0 w1 x zz g c s a1 n1 m1 a2 n2 m2 a3 n3 m3 a4 n4 m4 HH v1 v2 v3 (.slice a k m) _ _ _ _ _ _ _ _ _ _ _ _ _ _ _ _ _ _ _ _ _ _ _ _ _ _ _ _ _ _ _ _ _ _ _ _ _ _ _ _ _ _ _ _ _ _ _ _ _ _ _ _ _ _ _ _ _ _ _ _ _ _ _ _ _ _ _ _ _ _ _ _ _ _ _ _ _ _ _ _ _ _ _ _ _ _ _ _ _ _ _ _ _ _ _ _ _ _ _ _ _ _ _ _ _ _ _ _ _ _ _ _ _ _ _ _ _ _ _ _ _ _ _ _ _ _ _ _ _ _ _ _ _ _ _ _ _ _ _ _ _ _ _ _ _ _ _ _ _ _ _ _ _ _ _ _ _ _ _ _ _ _ _ _ _ _ _ _ _ _ _ _ _ wr NX.out)

end Go.Proofs.Ytpbdamnlfpfclaa
