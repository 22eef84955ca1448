/- Made: its loop 3. -/
import Derived.Test.YtpbdamnlfpfclaaMd4
namespace Go.Proofs.Ytpbdamnlfpfclaa
open Go.RowKit
set_option linter.unusedSimpArgs false
set_option linter.unusedVariables false

/-- The slots, while the region runs. -/
structure R13S (x : Array Value) (g c ab off k n mc : Nat) (x0 x1 x2 : Nat) (a : Option Addr) (m : Nat) (f4 f5 f7 f8 f9 f10 f11 f12 f13 f14 f15 f16 f17 f18 f19 f20 f21 f22 f23 f24 f25 f26 f27 f28 f29 f30 f31 f32 f33 f34 f35 f36 f37 f38 f39 f40 f41 f42 f43 f44 f45 f46 f47 f48 f49 f50 f51 f52 f53 f54 f55 f56 f57 f58 f59 f60 f61 f62 f63 f64 f65 f66 f67 f68 f69 f70 f71 f72 f73 f74 f75 f76 f77 f78 f79 f80 f81 f82 f83 f84 f85 f86 f87 f88 f89 f90 f91 f92 f93 f94 f95 f96 f97 f98 f99 f100 f101 f130 f131 f132 f133 f134 f135 f136 f137 f138 f139 f140 f141 f142 f143 f144 f145 f146 f147 f148 f149 f150 f151 f152 f153 f154 f155 f156 f157 f158 f159 f160 f161 f162 f163 f164 f165 f166 f167 f168 f169 f170 f171 f172 f173 f174 f175 f176 : Value) (L : Nat → Bool) (v102 v103 v104 v105 v106 v107 v108 v109 v110 v111 v112 v113 v114 v115 v116 v117 v118 v119 v120 v121 v122 v123 v124 v125 v126 v127 v128 v129 : Value) : Prop where
  e102 : L 0 = true → v102 = .pointer (some ⟨c, 8, none⟩)
  e103 : L 1 = true → v103 = .slice a k m
  e104 : L 2 = true → v104 = .pointer (some ⟨g, 9, none⟩)
  e105 : L 3 = true → v105 = .slice (some ⟨ab, off, none⟩) n mc
  e106 : L 4 = true → v106 = .int .i64 (k : Nat)
  e107 : L 5 = true → v107 = .pointer (some ⟨ab, off + k * 3, none⟩)
  e108 : L 6 = true → v108 = .pointer (some ⟨ab, off + k * 3, none⟩)
  e109 : L 7 = true → v109 = .int .u16 (x0 : Nat)
  e110 : L 8 = true → v110 = .pointer (some ⟨g, 9, none⟩)
  e111 : L 9 = true → v111 = .slice (some ⟨ab, off, none⟩) n mc
  e112 : L 10 = true → v112 = .int .i64 (k : Nat)
  e113 : L 11 = true → v113 = .pointer (some ⟨ab, off + k * 3, none⟩)
  e114 : L 12 = true → v114 = .pointer (some ⟨ab, off + k * 3 + 1, none⟩)
  e115 : L 13 = true → v115 = .int .u16 (x1 : Nat)
  e116 : L 14 = true → v116 = .int .u64 (x1 : Nat)
  e117 : L 15 = true → v117 = mac (byteF x1)
  e118 : L 16 = true → v118 = .agg (keyA x0 x1)
  e119 : L 17 = true → v119 = .pointer (some ⟨g, 9, none⟩)
  e120 : L 18 = true → v120 = .slice (some ⟨ab, off, none⟩) n mc
  e121 : L 19 = true → v121 = .int .i64 (k : Nat)
  e122 : L 20 = true → v122 = .pointer (some ⟨ab, off + k * 3, none⟩)
  e123 : L 21 = true → v123 = .pointer (some ⟨ab, off + k * 3 + 2, none⟩)
  e124 : L 22 = true → v124 = .int .u16 (x2 : Nat)
  e125 : L 23 = true → v125 = .int .u32 (x2 : Nat)
  e126 : L 24 = true → v126 = srV (srOf ⟨x0, x1, x2⟩)
  e129 : L 27 = true → v129 = .pointer (some ⟨c, 8, none⟩)
abbrev R13F (x : Array Value) (g c ab off k n mc : Nat) (x0 x1 x2 : Nat) (a : Option Addr) (m : Nat) (f4 f5 f7 f8 f9 f10 f11 f12 f13 f14 f15 f16 f17 f18 f19 f20 f21 f22 f23 f24 f25 f26 f27 f28 f29 f30 f31 f32 f33 f34 f35 f36 f37 f38 f39 f40 f41 f42 f43 f44 f45 f46 f47 f48 f49 f50 f51 f52 f53 f54 f55 f56 f57 f58 f59 f60 f61 f62 f63 f64 f65 f66 f67 f68 f69 f70 f71 f72 f73 f74 f75 f76 f77 f78 f79 f80 f81 f82 f83 f84 f85 f86 f87 f88 f89 f90 f91 f92 f93 f94 f95 f96 f97 f98 f99 f100 f101 f130 f131 f132 f133 f134 f135 f136 f137 f138 f139 f140 f141 f142 f143 f144 f145 f146 f147 f148 f149 f150 f151 f152 f153 f154 f155 f156 f157 f158 f159 f160 f161 f162 f163 f164 f165 f166 f167 f168 f169 f170 f171 f172 f173 f174 f175 f176 : Value) (v102 v103 v104 v105 v106 v107 v108 v109 v110 v111 v112 v113 v114 v115 v116 v117 v118 v119 v120 v121 v122 v123 v124 v125 v126 v127 v128 v129 : Value) : Act := { tmps := #[.agg x, .pointer (some ⟨g, 0, none⟩), .pointer (some ⟨g + 1, 0, none⟩), .pointer (some ⟨c, 0, none⟩), f4, f5, .int .i64 (k : Nat), f7, f8, f9, f10, f11, f12, f13, f14, f15, f16, f17, f18, f19, f20, f21, f22, f23, f24, f25, f26, f27, f28, f29, f30, f31, f32, f33, f34, f35, f36, f37, f38, f39, f40, f41, f42, f43, f44, f45, f46, f47, f48, f49, f50, f51, f52, f53, f54, f55, f56, f57, f58, f59, f60, f61, f62, f63, f64, f65, f66, f67, f68, f69, f70, f71, f72, f73, f74, f75, f76, f77, f78, f79, f80, f81, f82, f83, f84, f85, f86, f87, f88, f89, f90, f91, f92, f93, f94, f95, f96, f97, f98, f99, f100, f101, v102, v103, v104, v105, v106, v107, v108, v109, v110, v111, v112, v113, v114, v115, v116, v117, v118, v119, v120, v121, v122, v123, v124, v125, v126, v127, v128, v129, f130, f131, f132, f133, f134, f135, f136, f137, f138, f139, f140, f141, f142, f143, f144, f145, f146, f147, f148, f149, f150, f151, f152, f153, f154, f155, f156, f157, f158, f159, f160, f161, f162, f163, f164, f165, f166, f167, f168, f169, f170, f171, f172, f173, f174, f175, f176], defers := [] }
def R13I (x : Array Value) (g c ab off k n mc : Nat) (x0 x1 x2 : Nat) (a : Option Addr) (m : Nat) (f4 f5 f7 f8 f9 f10 f11 f12 f13 f14 f15 f16 f17 f18 f19 f20 f21 f22 f23 f24 f25 f26 f27 f28 f29 f30 f31 f32 f33 f34 f35 f36 f37 f38 f39 f40 f41 f42 f43 f44 f45 f46 f47 f48 f49 f50 f51 f52 f53 f54 f55 f56 f57 f58 f59 f60 f61 f62 f63 f64 f65 f66 f67 f68 f69 f70 f71 f72 f73 f74 f75 f76 f77 f78 f79 f80 f81 f82 f83 f84 f85 f86 f87 f88 f89 f90 f91 f92 f93 f94 f95 f96 f97 f98 f99 f100 f101 f130 f131 f132 f133 f134 f135 f136 f137 f138 f139 f140 f141 f142 f143 f144 f145 f146 f147 f148 f149 f150 f151 f152 f153 f154 f155 f156 f157 f158 f159 f160 f161 f162 f163 f164 f165 f166 f167 f168 f169 f170 f171 f172 f173 f174 f175 f176 : Value) (wb : World) (B3 : Nat) (l : List Sr) (L : Nat → Bool) (ac : Act) (w : World) : Prop :=
  ∃ v102 v103 v104 v105 v106 v107 v108 v109 v110 v111 v112 v113 v114 v115 v116 v117 v118 v119 v120 v121 v122 v123 v124 v125 v126 v127 v128 v129, ac = R13F x g c ab off k n mc x0 x1 x2 a m f4 f5 f7 f8 f9 f10 f11 f12 f13 f14 f15 f16 f17 f18 f19 f20 f21 f22 f23 f24 f25 f26 f27 f28 f29 f30 f31 f32 f33 f34 f35 f36 f37 f38 f39 f40 f41 f42 f43 f44 f45 f46 f47 f48 f49 f50 f51 f52 f53 f54 f55 f56 f57 f58 f59 f60 f61 f62 f63 f64 f65 f66 f67 f68 f69 f70 f71 f72 f73 f74 f75 f76 f77 f78 f79 f80 f81 f82 f83 f84 f85 f86 f87 f88 f89 f90 f91 f92 f93 f94 f95 f96 f97 f98 f99 f100 f101 f130 f131 f132 f133 f134 f135 f136 f137 f138 f139 f140 f141 f142 f143 f144 f145 f146 f147 f148 f149 f150 f151 f152 f153 f154 f155 f156 f157 f158 f159 f160 f161 f162 f163 f164 f165 f166 f167 f168 f169 f170 f171 f172 f173 f174 f175 f176 v102 v103 v104 v105 v106 v107 v108 v109 v110 v111 v112 v113 v114 v115 v116 v117 v118 v119 v120 v121 v122 v123 v124 v125 v126 v127 v128 v129 ∧ R13S x g c ab off k n mc x0 x1 x2 a m f4 f5 f7 f8 f9 f10 f11 f12 f13 f14 f15 f16 f17 f18 f19 f20 f21 f22 f23 f24 f25 f26 f27 f28 f29 f30 f31 f32 f33 f34 f35 f36 f37 f38 f39 f40 f41 f42 f43 f44 f45 f46 f47 f48 f49 f50 f51 f52 f53 f54 f55 f56 f57 f58 f59 f60 f61 f62 f63 f64 f65 f66 f67 f68 f69 f70 f71 f72 f73 f74 f75 f76 f77 f78 f79 f80 f81 f82 f83 f84 f85 f86 f87 f88 f89 f90 f91 f92 f93 f94 f95 f96 f97 f98 f99 f100 f101 f130 f131 f132 f133 f134 f135 f136 f137 f138 f139 f140 f141 f142 f143 f144 f145 f146 f147 f148 f149 f150 f151 f152 f153 f154 f155 f156 f157 f158 f159 f160 f161 f162 f163 f164 f165 f166 f167 f168 f169 f170 f171 f172 f173 f174 f175 f176 L v102 v103 v104 v105 v106 v107 v108 v109 v110 v111 v112 v113 v114 v115 v116 v117 v118 v119 v120 v121 v122 v123 v124 v125 v126 v127 v128 v129 ∧ ApW wb B3 60 8 srC (.slice a k m) l (srOf ⟨x0, x1, x2⟩) (L 25) (L 26) v127 v128 w
set_option maxRecDepth 100000 in
set_option maxHeartbeats 16000000 in
theorem md_3 (w0 w1 : World) (x zz : Array Value) (g c : Nat) (s : Sd) (a1 : Option Addr) (n1 m1 : Nat) (a2 : Option Addr) (n2 m2 : Nat) (a3 : Option Addr) (n3 m3 : Nat) (a4 : Option Addr) (n4 m4 : Nat) (HH : Hid (MdH w0 w1 zz g c s a1 n1 m1 a2 n2 m2 a3 n3 m3 a4 n4 m4)) (v1 v2 : Value) (f4 f5 f6 f7 f8 f9 f10 f11 f12 f13 f14 f15 f16 f17 f18 f19 f20 f21 f22 f23 f24 f25 f26 f27 f28 f29 f30 f31 f32 f33 f34 f35 f36 f37 f38 f39 f40 f41 f42 f43 f44 f45 f46 f47 f48 f49 f50 f51 f52 f53 f54 f55 f56 f57 f58 f59 f60 f61 f62 f63 f64 f65 f66 f67 f68 f69 f70 f71 f72 f73 f74 f75 f76 f77 f78 f79 f80 f81 f82 f83 f84 f85 f86 f87 f88 f89 f90 f91 f92 f93 f94 f95 f96 f97 f98 f99 f100 f101 f102 f103 f104 f105 f106 f107 f108 f109 f110 f111 f112 f113 f114 f115 f116 f117 f118 f119 f120 f121 f122 f123 f124 f125 f126 f127 f128 f129 f130 f131 f132 f133 f134 f135 f136 f137 f138 f139 f140 f141 f142 f143 f144 f145 f146 f147 f148 f149 f150 f151 f152 f153 f154 f155 f156 f157 f158 f159 f160 f161 f162 f163 f164 f165 f166 f167 f168 f169 f170 f171 f172 f173 f174 f175 f176 : Value) (wj : World) (KC : MjW w1 c (stK s 16 16 0 0) v1 v2 (.slice none 0 0) (.slice none 0 0) wj) :
    Code.wp Try.prog (tail6 10) (bodyPost Try.prog Try.f6 fun e w' => ∃ u1 u2 u3 u4, e = .returned (stV (madeS s) u1 u2 u3 u4) ∧ OwS w' w0.heap.size (madeS s) u1 u2 u3 u4 ∧ Below w0.heap.size w0 w') { tmps := #[.agg x, .pointer (some ⟨g, 0, none⟩), .pointer (some ⟨g + 1, 0, none⟩), .pointer (some ⟨c, 0, none⟩), f4, f5, f6, f7, f8, f9, f10, f11, f12, f13, f14, f15, f16, f17, f18, f19, f20, f21, f22, f23, f24, f25, f26, f27, f28, f29, f30, f31, f32, f33, f34, f35, f36, f37, f38, f39, f40, f41, f42, f43, f44, f45, f46, f47, f48, f49, f50, f51, f52, f53, f54, f55, f56, f57, f58, f59, f60, f61, f62, f63, f64, f65, f66, f67, f68, f69, f70, f71, f72, f73, f74, f75, f76, f77, f78, f79, f80, f81, f82, f83, f84, f85, f86, f87, f88, f89, f90, f91, f92, f93, f94, f95, f96, f97, f98, f99, f100, f101, f102, f103, f104, f105, f106, f107, f108, f109, f110, f111, f112, f113, f114, f115, f116, f117, f118, f119, f120, f121, f122, f123, f124, f125, f126, f127, f128, f129, f130, f131, f132, f133, f134, f135, f136, f137, f138, f139, f140, f141, f142, f143, f144, f145, f146, f147, f148, f149, f150, f151, f152, f153, f154, f155, f156, f157, f158, f159, f160, f161, f162, f163, f164, f165, f166, f167, f168, f169, f170, f171, f172, f173, f174, f175, f176], defers := [] } wj := by
  have K0 := Lib.hid KC
  clear KC
  conv => arg 2; whnf
  conv => arg 4; zeta
  have LE1 := Lib.hid (show w1.heap.size ≤ wj.heap.size from K0.out.below.size)
  have CLT := Lib.hid (show c + 1 ≤ wj.heap.size from K0.out.kc.lt)
  have CGE := Lib.hid (show w1.heap.size ≤ c by rw [HH.out.hc]; exact Nat.le_refl _)
  go_upto_region 11 with fail
  rename_i KX hKX
  have HKX := Lib.hid hKX
  clear hKX
  have hlc : (n3 : Int) ≤ 9223372036854775807 := by have q := HH.out.rs.cap; have q1 := q.1; have q2 := q.2; unfold maxLen at *; omega
  go_loopw [6] (fun i wr => ∃ (k : Nat) (a : Option Addr) (m : Nat), k ≤ n3 ∧ k ≤ 16 ∧ i = .int .i64 k ∧ LpW wj c (stK s 16 16 k 0) v1 v2 (.slice a k m) (.slice none 0 0) 60 8 srC (.slice a k m) ((s.ss.take k).map srOf) wr) (fun i _ => (16 - intOf i).toNat)
  case atStart => exact ⟨0, none, 0, by omega, by omega, rfl, ⟨World.grownBy.refl _ _, K0.out.kc, Own.nil _ _ _ _ _⟩⟩
  case round =>
    obtain ⟨k, a, m, hk, hk2, rfl, hI⟩ := hrel
    have HI := Lib.hid hI
    clear hI
    have BL := Lib.hid (show Below w1.heap.size w1 wr from grownBelow K0.out.below HI.out.gr (fun k hk => by injection hk with hk; rw [← hk]; exact CGE.out) LE1.out)
    have cq := (HH.out.cells wr BL.out).2.2.1
    by_cases hlt : k < n3 ∧ k < 16
    · obtain ⟨h1, h2⟩ := hlt
      obtain ⟨ab, off, y, rfl, hy, hok, hkc, hR⟩ := HH.out.rs.row (w1 := w1) HH.out.below h1
      obtain ⟨hkc, hnc⟩ := hkc
      obtain ⟨x0, x1, x2⟩ := y
      have HR : ∀ W, Below w1.heap.size w1 W → W.cell? ⟨ab, off + k * 3, none⟩ = some (.int .u16 (x0 : Nat)) ∧ W.cell? ⟨ab, off + k * 3 + 1, none⟩ = some (.int .u16 (x1 : Nat)) ∧ W.cell? ⟨ab, off + k * 3 + 2, none⟩ = some (.int .u16 (x2 : Nat)) := fun W hW => ⟨hR W hW 0 _ rfl, hR W hW 1 _ rfl, hR W hW 2 _ rfl⟩
      have E1 := wrap_small64 hok.2.1
      have E2 := wrap_small32 hok.2.2
      have HY := Lib.hid hy
      have SZ := Lib.hid (show wj.heap.size ≤ wr.heap.size from HI.out.gr.size)
      have NCa := Lib.hid (show (Value.slice a k m).ownBlock ≠ some c from own_not HI.out.own CLT.out)
      have KF := Lib.hid (show ∀ W, wr.grownBy W (Value.slice a k m).ownBlock → Blk W c (stA (stK s 16 16 k 0) v1 v2 (.slice a k m) (.slice none 0 0)) 41 ∧ Below w1.heap.size w1 W from fun W hW =>
        ⟨HI.out.kc.grown hW (fun e => NCa.out e.symm), grownBelow BL.out hW (fun k hk => Nat.le_trans LE1.out (HI.out.own.lt k hk).1) BL.out.size⟩)
      have DL := Lib.hid (show ((s.ss.take k).map srOf).length ≤ 100 by rw [tm_len (by have := HH.out.rs.len; omega)]; omega)
      clear hy
      go_upto_region 13 with fail
      refine wp_region_lastW 28 (I := R13I x g c ab off k n3 m3 x0 x1 x2 a m _ _ _ _ _ _ _ _ _ _ _ _ _ _ _ _ _ _ _ _ _ _ _ _ _ _ _ _ _ _ _ _ _ _ _ _ _ _ _ _ _ _ _ _ _ _ _ _ _ _ _ _ _ _ _ _ _ _ _ _ _ _ _ _ _ _ _ _ _ _ _ _ _ _ _ _ _ _ _ _ _ _ _ _ _ _ _ _ _ _ _ _ _ _ _ _ _ _ _ _ _ _ _ _ _ _ _ _ _ _ _ _ _ _ _ _ _ _ _ _ _ _ _ _ _ _ _ _ _ _ _ _ _ _ _ _ _ _ _ _ _ _ _ _ wr wj.heap.size ((s.ss.take k).map srOf)) (by kernel_rfl) (by kernel_rfl) (by kernel_rfl) ⟨_, _, _, _, _, _, _, _, _, _, _, _, _, _, _, _, _, _, _, _, _, _, _, _, _, _, _, _, rfl, ⟨(fun h => Bool.noConfusion h), (fun h => Bool.noConfusion h), (fun h => Bool.noConfusion h), (fun h => Bool.noConfusion h), (fun h => Bool.noConfusion h), (fun h => Bool.noConfusion h), (fun h => Bool.noConfusion h), (fun h => Bool.noConfusion h), (fun h => Bool.noConfusion h), (fun h => Bool.noConfusion h), (fun h => Bool.noConfusion h), (fun h => Bool.noConfusion h), (fun h => Bool.noConfusion h), (fun h => Bool.noConfusion h), (fun h => Bool.noConfusion h), (fun h => Bool.noConfusion h), (fun h => Bool.noConfusion h), (fun h => Bool.noConfusion h), (fun h => Bool.noConfusion h), (fun h => Bool.noConfusion h), (fun h => Bool.noConfusion h), (fun h => Bool.noConfusion h), (fun h => Bool.noConfusion h), (fun h => Bool.noConfusion h), (fun h => Bool.noConfusion h), (fun h => Bool.noConfusion h)⟩, ApW.start HI.out.own SZ.out⟩ ?_ ?_
      · intro o ho Lx ac w' hI hL haft
        obtain ⟨v102, v103, v104, v105, v106, v107, v108, v109, v110, v111, v112, v113, v114, v115, v116, v117, v118, v119, v120, v121, v122, v123, v124, v125, v126, v127, v128, v129, rfl, hs, hw⟩ := hI
        match o, ho with
        | 0, _ =>
          exact i_val rfl (.pointer (some ⟨c, 8, none⟩)) w' (by rfl) (by go_simp) ⟨(.pointer (some ⟨c, 8, none⟩)), v103, v104, v105, v106, v107, v108, v109, v110, v111, v112, v113, v114, v115, v116, v117, v118, v119, v120, v121, v122, v123, v124, v125, v126, v127, v128, v129, rfl, { hs with e102 := fun _ => rfl }, hw⟩
        | 1, _ =>
          have e102x := hs.e102 (haft 0 (by decide))
          subst e102x
          have q := (st_cells (KF.out w' hw.g).1).2.2.1
          exact i_val rfl (.slice a k m) w' (by rfl) (by go_simp) ⟨(.pointer (some ⟨c, 8, none⟩)), (.slice a k m), v104, v105, v106, v107, v108, v109, v110, v111, v112, v113, v114, v115, v116, v117, v118, v119, v120, v121, v122, v123, v124, v125, v126, v127, v128, v129, rfl, { hs with e103 := fun _ => rfl }, hw⟩
        | 2, _ =>
          exact i_val rfl (.pointer (some ⟨g, 9, none⟩)) w' (by rfl) (by go_simp) ⟨v102, v103, (.pointer (some ⟨g, 9, none⟩)), v105, v106, v107, v108, v109, v110, v111, v112, v113, v114, v115, v116, v117, v118, v119, v120, v121, v122, v123, v124, v125, v126, v127, v128, v129, rfl, { hs with e104 := fun _ => rfl }, hw⟩
        | 3, _ =>
          have e104x := hs.e104 (haft 2 (by decide))
          subst e104x
          have q := (HH.out.cells w' (KF.out w' hw.g).2).2.2.1
          exact i_val rfl (.slice (some ⟨ab, off, none⟩) n3 m3) w' (by rfl) (by go_simp) ⟨v102, v103, (.pointer (some ⟨g, 9, none⟩)), (.slice (some ⟨ab, off, none⟩) n3 m3), v106, v107, v108, v109, v110, v111, v112, v113, v114, v115, v116, v117, v118, v119, v120, v121, v122, v123, v124, v125, v126, v127, v128, v129, rfl, { hs with e105 := fun _ => rfl }, hw⟩
        | 4, _ =>
          exact i_val rfl (.int .i64 (k : Nat)) w' (by rfl) (by go_simp) ⟨v102, v103, v104, v105, (.int .i64 (k : Nat)), v107, v108, v109, v110, v111, v112, v113, v114, v115, v116, v117, v118, v119, v120, v121, v122, v123, v124, v125, v126, v127, v128, v129, rfl, { hs with e106 := fun _ => rfl }, hw⟩
        | 5, _ =>
          have e105x := hs.e105 (haft 3 (by decide))
          subst e105x
          have e106x := hs.e106 (haft 4 (by decide))
          subst e106x
          exact i_val rfl (.pointer (some ⟨ab, off + k * 3, none⟩)) w' (by rfl) (by go_simp) ⟨v102, v103, v104, (.slice (some ⟨ab, off, none⟩) n3 m3), (.int .i64 (k : Nat)), (.pointer (some ⟨ab, off + k * 3, none⟩)), v108, v109, v110, v111, v112, v113, v114, v115, v116, v117, v118, v119, v120, v121, v122, v123, v124, v125, v126, v127, v128, v129, rfl, { hs with e107 := fun _ => rfl }, hw⟩
        | 6, _ =>
          have e107x := hs.e107 (haft 5 (by decide))
          subst e107x
          exact i_val rfl (.pointer (some ⟨ab, off + k * 3, none⟩)) w' (by rfl) (by go_simp) ⟨v102, v103, v104, v105, v106, (.pointer (some ⟨ab, off + k * 3, none⟩)), (.pointer (some ⟨ab, off + k * 3, none⟩)), v109, v110, v111, v112, v113, v114, v115, v116, v117, v118, v119, v120, v121, v122, v123, v124, v125, v126, v127, v128, v129, rfl, { hs with e108 := fun _ => rfl }, hw⟩
        | 7, _ =>
          have e108x := hs.e108 (haft 6 (by decide))
          subst e108x
          have q := (HR w' (KF.out w' hw.g).2).1
          exact i_val rfl (.int .u16 (x0 : Nat)) w' (by rfl) (by go_simp) ⟨v102, v103, v104, v105, v106, v107, (.pointer (some ⟨ab, off + k * 3, none⟩)), (.int .u16 (x0 : Nat)), v110, v111, v112, v113, v114, v115, v116, v117, v118, v119, v120, v121, v122, v123, v124, v125, v126, v127, v128, v129, rfl, { hs with e109 := fun _ => rfl }, hw⟩
        | 8, _ =>
          exact i_val rfl (.pointer (some ⟨g, 9, none⟩)) w' (by rfl) (by go_simp) ⟨v102, v103, v104, v105, v106, v107, v108, v109, (.pointer (some ⟨g, 9, none⟩)), v111, v112, v113, v114, v115, v116, v117, v118, v119, v120, v121, v122, v123, v124, v125, v126, v127, v128, v129, rfl, { hs with e110 := fun _ => rfl }, hw⟩
        | 9, _ =>
          have e110x := hs.e110 (haft 8 (by decide))
          subst e110x
          have q := (HH.out.cells w' (KF.out w' hw.g).2).2.2.1
          exact i_val rfl (.slice (some ⟨ab, off, none⟩) n3 m3) w' (by rfl) (by go_simp) ⟨v102, v103, v104, v105, v106, v107, v108, v109, (.pointer (some ⟨g, 9, none⟩)), (.slice (some ⟨ab, off, none⟩) n3 m3), v112, v113, v114, v115, v116, v117, v118, v119, v120, v121, v122, v123, v124, v125, v126, v127, v128, v129, rfl, { hs with e111 := fun _ => rfl }, hw⟩
        | 10, _ =>
          exact i_val rfl (.int .i64 (k : Nat)) w' (by rfl) (by go_simp) ⟨v102, v103, v104, v105, v106, v107, v108, v109, v110, v111, (.int .i64 (k : Nat)), v113, v114, v115, v116, v117, v118, v119, v120, v121, v122, v123, v124, v125, v126, v127, v128, v129, rfl, { hs with e112 := fun _ => rfl }, hw⟩
        | 11, _ =>
          have e111x := hs.e111 (haft 9 (by decide))
          subst e111x
          have e112x := hs.e112 (haft 10 (by decide))
          subst e112x
          exact i_val rfl (.pointer (some ⟨ab, off + k * 3, none⟩)) w' (by rfl) (by go_simp) ⟨v102, v103, v104, v105, v106, v107, v108, v109, v110, (.slice (some ⟨ab, off, none⟩) n3 m3), (.int .i64 (k : Nat)), (.pointer (some ⟨ab, off + k * 3, none⟩)), v114, v115, v116, v117, v118, v119, v120, v121, v122, v123, v124, v125, v126, v127, v128, v129, rfl, { hs with e113 := fun _ => rfl }, hw⟩
        | 12, _ =>
          have e113x := hs.e113 (haft 11 (by decide))
          subst e113x
          exact i_val rfl (.pointer (some ⟨ab, off + k * 3 + 1, none⟩)) w' (by rfl) (by go_simp) ⟨v102, v103, v104, v105, v106, v107, v108, v109, v110, v111, v112, (.pointer (some ⟨ab, off + k * 3, none⟩)), (.pointer (some ⟨ab, off + k * 3 + 1, none⟩)), v115, v116, v117, v118, v119, v120, v121, v122, v123, v124, v125, v126, v127, v128, v129, rfl, { hs with e114 := fun _ => rfl }, hw⟩
        | 13, _ =>
          have e114x := hs.e114 (haft 12 (by decide))
          subst e114x
          have q := (HR w' (KF.out w' hw.g).2).2.1
          exact i_val rfl (.int .u16 (x1 : Nat)) w' (by rfl) (by go_simp) ⟨v102, v103, v104, v105, v106, v107, v108, v109, v110, v111, v112, v113, (.pointer (some ⟨ab, off + k * 3 + 1, none⟩)), (.int .u16 (x1 : Nat)), v116, v117, v118, v119, v120, v121, v122, v123, v124, v125, v126, v127, v128, v129, rfl, { hs with e115 := fun _ => rfl }, hw⟩
        | 14, _ =>
          have e115x := hs.e115 (haft 13 (by decide))
          subst e115x
          exact i_val rfl (.int .u64 (x1 : Nat)) w' (by rfl) (by go_simp; first | done | exact E1) ⟨v102, v103, v104, v105, v106, v107, v108, v109, v110, v111, v112, v113, v114, (.int .u16 (x1 : Nat)), (.int .u64 (x1 : Nat)), v117, v118, v119, v120, v121, v122, v123, v124, v125, v126, v127, v128, v129, rfl, { hs with e116 := fun _ => rfl }, hw⟩
        | 15, _ =>
          have e116x := hs.e116 (haft 14 (by decide))
          subst e116x
          exact i_call rfl (mac (byteF x1)) 13 #[.int .u64 (x1 : Nat)] (fun w2 => Below w'.heap.size w' w2) (by rfl) (by go_simp) (fromInt_any x1 w') fun w2 hb => ⟨v102, v103, v104, v105, v106, v107, v108, v109, v110, v111, v112, v113, v114, v115, (.int .u64 (x1 : Nat)), (mac (byteF x1)), v118, v119, v120, v121, v122, v123, v124, v125, v126, v127, v128, v129, rfl, { hs with e117 := fun _ => rfl }, hw.next hb⟩
        | 16, _ =>
          have e109x := hs.e109 (haft 7 (by decide))
          subst e109x
          have e117x := hs.e117 (haft 15 (by decide))
          subst e117x
          exact i_val rfl (.agg (keyA x0 x1)) w' (by rfl) (run_build_of 58 [(0, .tmp 109), (1, .tmp 117)] rfl _ _ rfl (built_key x0 x1)) ⟨v102, v103, v104, v105, v106, v107, v108, (.int .u16 (x0 : Nat)), v110, v111, v112, v113, v114, v115, v116, (mac (byteF x1)), (.agg (keyA x0 x1)), v119, v120, v121, v122, v123, v124, v125, v126, v127, v128, v129, rfl, { hs with e118 := fun _ => rfl }, hw⟩
        | 17, _ =>
          exact i_val rfl (.pointer (some ⟨g, 9, none⟩)) w' (by rfl) (by go_simp) ⟨v102, v103, v104, v105, v106, v107, v108, v109, v110, v111, v112, v113, v114, v115, v116, v117, v118, (.pointer (some ⟨g, 9, none⟩)), v120, v121, v122, v123, v124, v125, v126, v127, v128, v129, rfl, { hs with e119 := fun _ => rfl }, hw⟩
        | 18, _ =>
          have e119x := hs.e119 (haft 17 (by decide))
          subst e119x
          have q := (HH.out.cells w' (KF.out w' hw.g).2).2.2.1
          exact i_val rfl (.slice (some ⟨ab, off, none⟩) n3 m3) w' (by rfl) (by go_simp) ⟨v102, v103, v104, v105, v106, v107, v108, v109, v110, v111, v112, v113, v114, v115, v116, v117, v118, (.pointer (some ⟨g, 9, none⟩)), (.slice (some ⟨ab, off, none⟩) n3 m3), v121, v122, v123, v124, v125, v126, v127, v128, v129, rfl, { hs with e120 := fun _ => rfl }, hw⟩
        | 19, _ =>
          exact i_val rfl (.int .i64 (k : Nat)) w' (by rfl) (by go_simp) ⟨v102, v103, v104, v105, v106, v107, v108, v109, v110, v111, v112, v113, v114, v115, v116, v117, v118, v119, v120, (.int .i64 (k : Nat)), v122, v123, v124, v125, v126, v127, v128, v129, rfl, { hs with e121 := fun _ => rfl }, hw⟩
        | 20, _ =>
          have e120x := hs.e120 (haft 18 (by decide))
          subst e120x
          have e121x := hs.e121 (haft 19 (by decide))
          subst e121x
          exact i_val rfl (.pointer (some ⟨ab, off + k * 3, none⟩)) w' (by rfl) (by go_simp) ⟨v102, v103, v104, v105, v106, v107, v108, v109, v110, v111, v112, v113, v114, v115, v116, v117, v118, v119, (.slice (some ⟨ab, off, none⟩) n3 m3), (.int .i64 (k : Nat)), (.pointer (some ⟨ab, off + k * 3, none⟩)), v123, v124, v125, v126, v127, v128, v129, rfl, { hs with e122 := fun _ => rfl }, hw⟩
        | 21, _ =>
          have e122x := hs.e122 (haft 20 (by decide))
          subst e122x
          exact i_val rfl (.pointer (some ⟨ab, off + k * 3 + 2, none⟩)) w' (by rfl) (by go_simp) ⟨v102, v103, v104, v105, v106, v107, v108, v109, v110, v111, v112, v113, v114, v115, v116, v117, v118, v119, v120, v121, (.pointer (some ⟨ab, off + k * 3, none⟩)), (.pointer (some ⟨ab, off + k * 3 + 2, none⟩)), v124, v125, v126, v127, v128, v129, rfl, { hs with e123 := fun _ => rfl }, hw⟩
        | 22, _ =>
          have e123x := hs.e123 (haft 21 (by decide))
          subst e123x
          have q := (HR w' (KF.out w' hw.g).2).2.2
          exact i_val rfl (.int .u16 (x2 : Nat)) w' (by rfl) (by go_simp) ⟨v102, v103, v104, v105, v106, v107, v108, v109, v110, v111, v112, v113, v114, v115, v116, v117, v118, v119, v120, v121, v122, (.pointer (some ⟨ab, off + k * 3 + 2, none⟩)), (.int .u16 (x2 : Nat)), v125, v126, v127, v128, v129, rfl, { hs with e124 := fun _ => rfl }, hw⟩
        | 23, _ =>
          have e124x := hs.e124 (haft 22 (by decide))
          subst e124x
          exact i_val rfl (.int .u32 (x2 : Nat)) w' (by rfl) (by go_simp; first | done | exact E2) ⟨v102, v103, v104, v105, v106, v107, v108, v109, v110, v111, v112, v113, v114, v115, v116, v117, v118, v119, v120, v121, v122, v123, (.int .u16 (x2 : Nat)), (.int .u32 (x2 : Nat)), v126, v127, v128, v129, rfl, { hs with e125 := fun _ => rfl }, hw⟩
        | 24, _ =>
          have e118x := hs.e118 (haft 16 (by decide))
          subst e118x
          have e125x := hs.e125 (haft 23 (by decide))
          subst e125x
          exact i_val rfl (srV (srOf ⟨x0, x1, x2⟩)) w' (by rfl) (run_build_of 60 [(0, .tmp 118), (1, .tmp 125)] rfl _ _ rfl (built_sr x0 x1 x2)) ⟨v102, v103, v104, v105, v106, v107, v108, v109, v110, v111, v112, v113, v114, v115, v116, v117, (.agg (keyA x0 x1)), v119, v120, v121, v122, v123, v124, (.int .u32 (x2 : Nat)), (srV (srOf ⟨x0, x1, x2⟩)), v127, v128, v129, rfl, { hs with e126 := fun _ => rfl }, hw⟩
        | 25, _ =>
          have e126x := hs.e126 (haft 24 (by decide))
          subst e126x
          exact i_val rfl (.slice (some ⟨w'.heap.size, 0, none⟩) 1 1) (w'.alloc (.cells (srA (srOf ⟨x0, x1, x2⟩)) 60)) (by rfl) (run_bs1 37 (.tmp 126) rfl (srV (srOf ⟨x0, x1, x2⟩)) _ rfl (one_sr (srOf ⟨x0, x1, x2⟩) w')) ⟨v102, v103, v104, v105, v106, v107, v108, v109, v110, v111, v112, v113, v114, v115, v116, v117, v118, v119, v120, v121, v122, v123, v124, v125, (srV (srOf ⟨x0, x1, x2⟩)), (.slice (some ⟨w'.heap.size, 0, none⟩) 1 1), v128, v129, rfl, { hs with }, hw.made srT hL _ rfl⟩
        | 26, _ =>
          have e103x := hs.e103 (haft 1 (by decide))
          subst e103x
          obtain ⟨u, w2, hrun, hw2⟩ := hw.app srT (haft 25 (by decide)) hL (by have := DL.out; omega) 37
          have hmk := haft 25 (by decide)
          exact i_wp rfl (by rfl) (wp_append_lst _ _ 37 rfl u w2 hrun ⟨v102, (.slice a k m), v104, v105, v106, v107, v108, v109, v110, v111, v112, v113, v114, v115, v116, v117, v118, v119, v120, v121, v122, v123, v124, v125, v126, v127, u, v129, rfl, { hs with }, by rw [show upd Lx 26 25 = true from hmk]; exact hw2⟩)
        | 27, _ =>
          exact i_val rfl (.pointer (some ⟨c, 8, none⟩)) w' (by rfl) (by go_simp) ⟨v102, v103, v104, v105, v106, v107, v108, v109, v110, v111, v112, v113, v114, v115, v116, v117, v118, v119, v120, v121, v122, v123, v124, v125, v126, v127, v128, (.pointer (some ⟨c, 8, none⟩)), rfl, { hs with e129 := fun _ => rfl }, hw⟩
        | k + 28, h =>
          exfalso
          have h2 : k + 28 < 28 := h
          omega
      intro Lx ac w' hI hall
      obtain ⟨v102, v103, v104, v105, v106, v107, v108, v109, v110, v111, v112, v113, v114, v115, v116, v117, v118, v119, v120, v121, v122, v123, v124, v125, v126, v127, v128, v129, rfl, hs, hw⟩ := hI
      have e102y := hs.e102 (hall 0 (by decide))
      subst e102y
      have e103y := hs.e103 (hall 1 (by decide))
      subst e103y
      have e104y := hs.e104 (hall 2 (by decide))
      subst e104y
      have e105y := hs.e105 (hall 3 (by decide))
      subst e105y
      have e106y := hs.e106 (hall 4 (by decide))
      subst e106y
      have e107y := hs.e107 (hall 5 (by decide))
      subst e107y
      have e108y := hs.e108 (hall 6 (by decide))
      subst e108y
      have e109y := hs.e109 (hall 7 (by decide))
      subst e109y
      have e110y := hs.e110 (hall 8 (by decide))
      subst e110y
      have e111y := hs.e111 (hall 9 (by decide))
      subst e111y
      have e112y := hs.e112 (hall 10 (by decide))
      subst e112y
      have e113y := hs.e113 (hall 11 (by decide))
      subst e113y
      have e114y := hs.e114 (hall 12 (by decide))
      subst e114y
      have e115y := hs.e115 (hall 13 (by decide))
      subst e115y
      have e116y := hs.e116 (hall 14 (by decide))
      subst e116y
      have e117y := hs.e117 (hall 15 (by decide))
      subst e117y
      have e118y := hs.e118 (hall 16 (by decide))
      subst e118y
      have e119y := hs.e119 (hall 17 (by decide))
      subst e119y
      have e120y := hs.e120 (hall 18 (by decide))
      subst e120y
      have e121y := hs.e121 (hall 19 (by decide))
      subst e121y
      have e122y := hs.e122 (hall 20 (by decide))
      subst e122y
      have e123y := hs.e123 (hall 21 (by decide))
      subst e123y
      have e124y := hs.e124 (hall 22 (by decide))
      subst e124y
      have e125y := hs.e125 (hall 23 (by decide))
      subst e125y
      have e126y := hs.e126 (hall 24 (by decide))
      subst e126y
      have e129y := hs.e129 (hall 27 (by decide))
      subst e129y
      have HA := Lib.hid hw
      rw [hall 25 (by decide), hall 26 (by decide)] at HA
      clear hs hall hw
      have GR := Lib.hid HA.out.g
      have AG := Lib.hid (show wj.grownBy w' (some c) from grown_high HI.out.gr HA.out.g (fun k hk => (HI.out.own.lt k hk).1))
      obtain ⟨q', r', eu, -⟩ := (HA.out.pr rfl).shape
      have OA := Lib.hid (HA.out.pr rfl)
      rw [tm_step HY.out] at eu OA
      rw [tm_len (by have := HH.out.rs.len; omega)] at eu
      subst eu
      have QK := Lib.hid (KF.out w' GR.out).1
      have Q1 := (st_cells QK.out).2.2.1
      have Q2 := QK.out.free 8
      refine i_skip rfl (w'.setCell ⟨c, 8, none⟩ (.slice q' (k + 1) r')) (by rfl) (by go_simp) ?_
      have KN := Lib.hid (show Blk (w'.setCell ⟨c, 8, none⟩ (.slice q' (k + 1) r')) c (stA (stK s 16 16 (k + 1) 0) v1 v2 (.slice q' (k + 1) r') (.slice none 0 0)) 41 from QK.out.set 8 _)
      go_wp2_with fail
      go_roundw
      case rel => exact ⟨k + 1, q', r', by omega, by omega, by go_num, ⟨grown_set AG.out, KN.out, OA.out.setCell (a := ⟨c, 8, none⟩) (own_not OA.out CLT.out) _⟩⟩
      case measure => simp [intOf]; omega
    · have NX := Lib.hid (show MjW w1 c (stK s 16 16 16 0) v1 v2 (.slice a k m) (.slice none 0 0) wr by
        have TS := take_stop HH.out.rs.len hk hk2 hlt
        have HO := HI.out.own
        have HK := HI.out.kc
        rw [TS] at HO
        exact ⟨BL.out, HK, ⟨Own.grown K0.out.own.o1 HI.out.gr (own_not K0.out.own.o1 (Nat.lt_succ_self _)), Own.grown K0.out.own.o2 HI.out.gr (own_not K0.out.own.o2 (Nat.lt_succ_self _)), HO.mono CLT.out, Own.nil _ _ _ _ _, stK_few s (by omega) (by omega) (by omega) (by omega)⟩⟩)
      have HE := Lib.hid (show ¬ (k : Int) < (n3 : Int) ∨ ((k : Int) < (n3 : Int) ∧ ¬ (k : Int) < 16) by omega)
      clear hlt hk hk2
      rcases HE.out with g1 | ⟨g1, g2⟩
      all_goals
        go_wp2_with fail
        exact HKX.out _ _ (md_4 w0 w1 x zz g c s a1 n1 m1 a2 n2 m2 a3 n3 m3 a4 n4 m4 HH v1 v2 (.slice a k m)  _ _ _ _ _ _ _ _ _ _ _ _ _ _ _ _ _ _ _ _ _ _ _ _ _ _ _ _ _ _ _ _ _ _ _ _ _ _ _ _ _ _ _ _ _ _ _ _ _ _ _ _ _ _ _ _ _ _ _ _ _ _ _ _ _ _ _ _ _ _ _ _ _ _ _ _ _ _ _ _ _ _ _ _ _ _ _ _ _ _ _ _ _ _ _ _ _ _ _ _ _ _ _ _ _ _ _ _ _ _ _ _ _ _ _ _ _ _ _ _ _ _ _ _ _ _ _ _ _ _ _ _ _ _ _ _ _ _ _ _ _ _ _ _ _ _ _ _ _ _ _ _ _ _ _ _ _ _ _ _ _ _ _ _ _ _ _ _ _ _ _ _ _ wr NX.out)

end Go.Proofs.Ytpbdamnlfpfclaa
