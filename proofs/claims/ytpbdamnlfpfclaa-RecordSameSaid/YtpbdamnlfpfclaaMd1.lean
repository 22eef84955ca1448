/- Made: its loop 1. -/
import Derived.Test.YtpbdamnlfpfclaaMd2
namespace Go.Proofs.Ytpbdamnlfpfclaa
open Go.RowKit
set_option linter.unusedSimpArgs false
set_option linter.unusedVariables false

/-- The slots, while the region runs. -/
structure R5S (x : Array Value) (g c ab off k n mc : Nat) (y : Pp) (a : Option Addr) (m : Nat) (f5 f6 f7 f8 f9 f10 f11 f12 f13 f14 f15 f16 f17 f18 f19 f20 f21 f22 f23 f24 f25 f26 f27 f28 f29 f30 f31 f32 f33 f34 f35 f36 f37 f38 f39 f40 f41 f42 f54 f55 f56 f57 f58 f59 f60 f61 f62 f63 f64 f65 f66 f67 f68 f69 f70 f71 f72 f73 f74 f75 f76 f77 f78 f79 f80 f81 f82 f83 f84 f85 f86 f87 f88 f89 f90 f91 f92 f93 f94 f95 f96 f97 f98 f99 f100 f101 f102 f103 f104 f105 f106 f107 f108 f109 f110 f111 f112 f113 f114 f115 f116 f117 f118 f119 f120 f121 f122 f123 f124 f125 f126 f127 f128 f129 f130 f131 f132 f133 f134 f135 f136 f137 f138 f139 f140 f141 f142 f143 f144 f145 f146 f147 f148 f149 f150 f151 f152 f153 f154 f155 f156 f157 f158 f159 f160 f161 f162 f163 f164 f165 f166 f167 f168 f169 f170 f171 f172 f173 f174 f175 f176 : Value) (L : Nat → Bool) (v43 v44 v45 v46 v47 v48 v49 v50 v51 v52 v53 : Value) : Prop where
  e43 : L 0 = true → v43 = .pointer (some ⟨c, 6, none⟩)
  e44 : L 1 = true → v44 = .slice a k m
  e45 : L 2 = true → v45 = .pointer (some ⟨g, 7, none⟩)
  e46 : L 3 = true → v46 = .slice (some ⟨ab, off, none⟩) n mc
  e47 : L 4 = true → v47 = .int .i64 (k : Nat)
  e48 : L 5 = true → v48 = .pointer (some ⟨ab, off + k * 21, none⟩)
  e49 : L 6 = true → v49 = ppV y
  e50 : L 7 = true → v50 = poV (toldP y)
  e53 : L 10 = true → v53 = .pointer (some ⟨c, 6, none⟩)
abbrev R5F (x : Array Value) (g c ab off k n mc : Nat) (y : Pp) (a : Option Addr) (m : Nat) (f5 f6 f7 f8 f9 f10 f11 f12 f13 f14 f15 f16 f17 f18 f19 f20 f21 f22 f23 f24 f25 f26 f27 f28 f29 f30 f31 f32 f33 f34 f35 f36 f37 f38 f39 f40 f41 f42 f54 f55 f56 f57 f58 f59 f60 f61 f62 f63 f64 f65 f66 f67 f68 f69 f70 f71 f72 f73 f74 f75 f76 f77 f78 f79 f80 f81 f82 f83 f84 f85 f86 f87 f88 f89 f90 f91 f92 f93 f94 f95 f96 f97 f98 f99 f100 f101 f102 f103 f104 f105 f106 f107 f108 f109 f110 f111 f112 f113 f114 f115 f116 f117 f118 f119 f120 f121 f122 f123 f124 f125 f126 f127 f128 f129 f130 f131 f132 f133 f134 f135 f136 f137 f138 f139 f140 f141 f142 f143 f144 f145 f146 f147 f148 f149 f150 f151 f152 f153 f154 f155 f156 f157 f158 f159 f160 f161 f162 f163 f164 f165 f166 f167 f168 f169 f170 f171 f172 f173 f174 f175 f176 : Value) (v43 v44 v45 v46 v47 v48 v49 v50 v51 v52 v53 : Value) : Act := { tmps := #[.agg x, .pointer (some ⟨g, 0, none⟩), .pointer (some ⟨g + 1, 0, none⟩), .pointer (some ⟨c, 0, none⟩), .int .i64 (k : Nat), f5, f6, f7, f8, f9, f10, f11, f12, f13, f14, f15, f16, f17, f18, f19, f20, f21, f22, f23, f24, f25, f26, f27, f28, f29, f30, f31, f32, f33, f34, f35, f36, f37, f38, f39, f40, f41, f42, v43, v44, v45, v46, v47, v48, v49, v50, v51, v52, v53, f54, f55, f56, f57, f58, f59, f60, f61, f62, f63, f64, f65, f66, f67, f68, f69, f70, f71, f72, f73, f74, f75, f76, f77, f78, f79, f80, f81, f82, f83, f84, f85, f86, f87, f88, f89, f90, f91, f92, f93, f94, f95, f96, f97, f98, f99, f100, f101, f102, f103, f104, f105, f106, f107, f108, f109, f110, f111, f112, f113, f114, f115, f116, f117, f118, f119, f120, f121, f122, f123, f124, f125, f126, f127, f128, f129, f130, f131, f132, f133, f134, f135, f136, f137, f138, f139, f140, f141, f142, f143, f144, f145, f146, f147, f148, f149, f150, f151, f152, f153, f154, f155, f156, f157, f158, f159, f160, f161, f162, f163, f164, f165, f166, f167, f168, f169, f170, f171, f172, f173, f174, f175, f176], defers := [] }
def R5I (x : Array Value) (g c ab off k n mc : Nat) (y : Pp) (a : Option Addr) (m : Nat) (f5 f6 f7 f8 f9 f10 f11 f12 f13 f14 f15 f16 f17 f18 f19 f20 f21 f22 f23 f24 f25 f26 f27 f28 f29 f30 f31 f32 f33 f34 f35 f36 f37 f38 f39 f40 f41 f42 f54 f55 f56 f57 f58 f59 f60 f61 f62 f63 f64 f65 f66 f67 f68 f69 f70 f71 f72 f73 f74 f75 f76 f77 f78 f79 f80 f81 f82 f83 f84 f85 f86 f87 f88 f89 f90 f91 f92 f93 f94 f95 f96 f97 f98 f99 f100 f101 f102 f103 f104 f105 f106 f107 f108 f109 f110 f111 f112 f113 f114 f115 f116 f117 f118 f119 f120 f121 f122 f123 f124 f125 f126 f127 f128 f129 f130 f131 f132 f133 f134 f135 f136 f137 f138 f139 f140 f141 f142 f143 f144 f145 f146 f147 f148 f149 f150 f151 f152 f153 f154 f155 f156 f157 f158 f159 f160 f161 f162 f163 f164 f165 f166 f167 f168 f169 f170 f171 f172 f173 f174 f175 f176 : Value) (wb : World) (B3 : Nat) (l : List Po) (L : Nat → Bool) (ac : Act) (w : World) : Prop :=
  ∃ v43 v44 v45 v46 v47 v48 v49 v50 v51 v52 v53, ac = R5F x g c ab off k n mc y a m f5 f6 f7 f8 f9 f10 f11 f12 f13 f14 f15 f16 f17 f18 f19 f20 f21 f22 f23 f24 f25 f26 f27 f28 f29 f30 f31 f32 f33 f34 f35 f36 f37 f38 f39 f40 f41 f42 f54 f55 f56 f57 f58 f59 f60 f61 f62 f63 f64 f65 f66 f67 f68 f69 f70 f71 f72 f73 f74 f75 f76 f77 f78 f79 f80 f81 f82 f83 f84 f85 f86 f87 f88 f89 f90 f91 f92 f93 f94 f95 f96 f97 f98 f99 f100 f101 f102 f103 f104 f105 f106 f107 f108 f109 f110 f111 f112 f113 f114 f115 f116 f117 f118 f119 f120 f121 f122 f123 f124 f125 f126 f127 f128 f129 f130 f131 f132 f133 f134 f135 f136 f137 f138 f139 f140 f141 f142 f143 f144 f145 f146 f147 f148 f149 f150 f151 f152 f153 f154 f155 f156 f157 f158 f159 f160 f161 f162 f163 f164 f165 f166 f167 f168 f169 f170 f171 f172 f173 f174 f175 f176 v43 v44 v45 v46 v47 v48 v49 v50 v51 v52 v53 ∧ R5S x g c ab off k n mc y a m f5 f6 f7 f8 f9 f10 f11 f12 f13 f14 f15 f16 f17 f18 f19 f20 f21 f22 f23 f24 f25 f26 f27 f28 f29 f30 f31 f32 f33 f34 f35 f36 f37 f38 f39 f40 f41 f42 f54 f55 f56 f57 f58 f59 f60 f61 f62 f63 f64 f65 f66 f67 f68 f69 f70 f71 f72 f73 f74 f75 f76 f77 f78 f79 f80 f81 f82 f83 f84 f85 f86 f87 f88 f89 f90 f91 f92 f93 f94 f95 f96 f97 f98 f99 f100 f101 f102 f103 f104 f105 f106 f107 f108 f109 f110 f111 f112 f113 f114 f115 f116 f117 f118 f119 f120 f121 f122 f123 f124 f125 f126 f127 f128 f129 f130 f131 f132 f133 f134 f135 f136 f137 f138 f139 f140 f141 f142 f143 f144 f145 f146 f147 f148 f149 f150 f151 f152 f153 f154 f155 f156 f157 f158 f159 f160 f161 f162 f163 f164 f165 f166 f167 f168 f169 f170 f171 f172 f173 f174 f175 f176 L v43 v44 v45 v46 v47 v48 v49 v50 v51 v52 v53 ∧ ApW wb B3 50 21 poC (.slice a k m) l (toldP y) (L 8) (L 9) v51 v52 w
set_option maxRecDepth 100000 in
set_option maxHeartbeats 16000000 in
theorem md_1 (w0 w1 : World) (x zz : Array Value) (g c : Nat) (s : Sd) (a1 : Option Addr) (n1 m1 : Nat) (a2 : Option Addr) (n2 m2 : Nat) (a3 : Option Addr) (n3 m3 : Nat) (a4 : Option Addr) (n4 m4 : Nat) (HH : Hid (MdH w0 w1 zz g c s a1 n1 m1 a2 n2 m2 a3 n3 m3 a4 n4 m4)) (f4 f5 f6 f7 f8 f9 f10 f11 f12 f13 f14 f15 f16 f17 f18 f19 f20 f21 f22 f23 f24 f25 f26 f27 f28 f29 f30 f31 f32 f33 f34 f35 f36 f37 f38 f39 f40 f41 f42 f43 f44 f45 f46 f47 f48 f49 f50 f51 f52 f53 f54 f55 f56 f57 f58 f59 f60 f61 f62 f63 f64 f65 f66 f67 f68 f69 f70 f71 f72 f73 f74 f75 f76 f77 f78 f79 f80 f81 f82 f83 f84 f85 f86 f87 f88 f89 f90 f91 f92 f93 f94 f95 f96 f97 f98 f99 f100 f101 f102 f103 f104 f105 f106 f107 f108 f109 f110 f111 f112 f113 f114 f115 f116 f117 f118 f119 f120 f121 f122 f123 f124 f125 f126 f127 f128 f129 f130 f131 f132 f133 f134 f135 f136 f137 f138 f139 f140 f141 f142 f143 f144 f145 f146 f147 f148 f149 f150 f151 f152 f153 f154 f155 f156 f157 f158 f159 f160 f161 f162 f163 f164 f165 f166 f167 f168 f169 f170 f171 f172 f173 f174 f175 f176 : Value) (wj : World) (KC : MjW w1 c (stK s 0 0 0 0) (.slice none 0 0) (.slice none 0 0) (.slice none 0 0) (.slice none 0 0) wj) :
    Code.wp Try.prog (tail6 2) (bodyPost Try.prog Try.f6 fun e w' => ∃ u1 u2 u3 u4, e = .returned (stV (madeS s) u1 u2 u3 u4) ∧ OwS w' w0.heap.size (madeS s) u1 u2 u3 u4 ∧ Below w0.heap.size w0 w') { tmps := #[.agg x, .pointer (some ⟨g, 0, none⟩), .pointer (some ⟨g + 1, 0, none⟩), .pointer (some ⟨c, 0, none⟩), f4, f5, f6, f7, f8, f9, f10, f11, f12, f13, f14, f15, f16, f17, f18, f19, f20, f21, f22, f23, f24, f25, f26, f27, f28, f29, f30, f31, f32, f33, f34, f35, f36, f37, f38, f39, f40, f41, f42, f43, f44, f45, f46, f47, f48, f49, f50, f51, f52, f53, f54, f55, f56, f57, f58, f59, f60, f61, f62, f63, f64, f65, f66, f67, f68, f69, f70, f71, f72, f73, f74, f75, f76, f77, f78, f79, f80, f81, f82, f83, f84, f85, f86, f87, f88, f89, f90, f91, f92, f93, f94, f95, f96, f97, f98, f99, f100, f101, f102, f103, f104, f105, f106, f107, f108, f109, f110, f111, f112, f113, f114, f115, f116, f117, f118, f119, f120, f121, f122, f123, f124, f125, f126, f127, f128, f129, f130, f131, f132, f133, f134, f135, f136, f137, f138, f139, f140, f141, f142, f143, f144, f145, f146, f147, f148, f149, f150, f151, f152, f153, f154, f155, f156, f157, f158, f159, f160, f161, f162, f163, f164, f165, f166, f167, f168, f169, f170, f171, f172, f173, f174, f175, f176], defers := [] } wj := by
  have K0 := Lib.hid KC
  clear KC
  conv => arg 2; whnf
  conv => arg 4; zeta
  have LE1 := Lib.hid (show w1.heap.size ≤ wj.heap.size from K0.out.below.size)
  have CLT := Lib.hid (show c + 1 ≤ wj.heap.size from K0.out.kc.lt)
  have CGE := Lib.hid (show w1.heap.size ≤ c by rw [HH.out.hc]; exact Nat.le_refl _)
  go_upto_region 3 with fail
  rename_i KX hKX
  have HKX := Lib.hid hKX
  clear hKX
  have hlc : (n1 : Int) ≤ 9223372036854775807 := by have q := HH.out.rp.cap; have q1 := q.1; have q2 := q.2; unfold maxLen at *; omega
  go_loopw [4] (fun i wr => ∃ (k : Nat) (a : Option Addr) (m : Nat), k ≤ n1 ∧ k ≤ 16 ∧ i = .int .i64 k ∧ LpW wj c (stK s k 0 0 0) (.slice a k m) (.slice none 0 0) (.slice none 0 0) (.slice none 0 0) 50 21 poC (.slice a k m) ((s.ps.take k).map toldP) wr) (fun i _ => (16 - intOf i).toNat)
  case atStart => exact ⟨0, none, 0, by omega, by omega, rfl, ⟨World.grownBy.refl _ _, K0.out.kc, Own.nil _ _ _ _ _⟩⟩
  case round =>
    obtain ⟨k, a, m, hk, hk2, rfl, hI⟩ := hrel
    have HI := Lib.hid hI
    clear hI
    have BL := Lib.hid (show Below w1.heap.size w1 wr from grownBelow K0.out.below HI.out.gr (fun k hk => by injection hk with hk; rw [← hk]; exact CGE.out) LE1.out)
    have cq := (HH.out.cells wr BL.out).1
    by_cases hlt : k < n1 ∧ k < 16
    · obtain ⟨h1, h2⟩ := hlt
      obtain ⟨ab, off, y, rfl, hy, hok, hkc, hR⟩ := HH.out.rp.row (w1 := w1) HH.out.below h1
      obtain ⟨hkc, hnc⟩ := hkc
      have HR : ∀ W, Below w1.heap.size w1 W → W.rangeAt ab (off + k * 21) (ppC y) := hR
      have HY := Lib.hid hy
      have SZ := Lib.hid (show wj.heap.size ≤ wr.heap.size from HI.out.gr.size)
      have NCa := Lib.hid (show (Value.slice a k m).ownBlock ≠ some c from own_not HI.out.own CLT.out)
      have KF := Lib.hid (show ∀ W, wr.grownBy W (Value.slice a k m).ownBlock → Blk W c (stA (stK s k 0 0 0) (.slice a k m) (.slice none 0 0) (.slice none 0 0) (.slice none 0 0)) 41 ∧ Below w1.heap.size w1 W from fun W hW =>
        ⟨HI.out.kc.grown hW (fun e => NCa.out e.symm), grownBelow BL.out hW (fun k hk => Nat.le_trans LE1.out (HI.out.own.lt k hk).1) BL.out.size⟩)
      have DL := Lib.hid (show ((s.ps.take k).map toldP).length ≤ 100 by rw [tm_len (by have := HH.out.rp.len; omega)]; omega)
      clear hy
      go_upto_region 5 with fail
      refine wp_region_lastW 11 (I := R5I x g c ab off k n1 m1 y a m _ _ _ _ _ _ _ _ _ _ _ _ _ _ _ _ _ _ _ _ _ _ _ _ _ _ _ _ _ _ _ _ _ _ _ _ _ _ _ _ _ _ _ _ _ _ _ _ _ _ _ _ _ _ _ _ _ _ _ _ _ _ _ _ _ _ _ _ _ _ _ _ _ _ _ _ _ _ _ _ _ _ _ _ _ _ _ _ _ _ _ _ _ _ _ _ _ _ _ _ _ _ _ _ _ _ _ _ _ _ _ _ _ _ _ _ _ _ _ _ _ _ _ _ _ _ _ _ _ _ _ _ _ _ _ _ _ _ _ _ _ _ _ _ _ _ _ _ _ _ _ _ _ _ _ _ _ _ _ _ _ wr wj.heap.size ((s.ps.take k).map toldP)) (by kernel_rfl) (by kernel_rfl) (by kernel_rfl) ⟨_, _, _, _, _, _, _, _, _, _, _, rfl, ⟨(fun h => Bool.noConfusion h), (fun h => Bool.noConfusion h), (fun h => Bool.noConfusion h), (fun h => Bool.noConfusion h), (fun h => Bool.noConfusion h), (fun h => Bool.noConfusion h), (fun h => Bool.noConfusion h), (fun h => Bool.noConfusion h), (fun h => Bool.noConfusion h)⟩, ApW.start HI.out.own SZ.out⟩ ?_ ?_
      · intro o ho Lx ac w' hI hL haft
        obtain ⟨v43, v44, v45, v46, v47, v48, v49, v50, v51, v52, v53, rfl, hs, hw⟩ := hI
        match o, ho with
        | 0, _ =>
          exact i_val rfl (.pointer (some ⟨c, 6, none⟩)) w' (by rfl) (by go_simp) ⟨(.pointer (some ⟨c, 6, none⟩)), v44, v45, v46, v47, v48, v49, v50, v51, v52, v53, rfl, { hs with e43 := fun _ => rfl }, hw⟩
        | 1, _ =>
          have e43x := hs.e43 (haft 0 (by decide))
          subst e43x
          have q := (st_cells (KF.out w' hw.g).1).1
          exact i_val rfl (.slice a k m) w' (by rfl) (by go_simp) ⟨(.pointer (some ⟨c, 6, none⟩)), (.slice a k m), v45, v46, v47, v48, v49, v50, v51, v52, v53, rfl, { hs with e44 := fun _ => rfl }, hw⟩
        | 2, _ =>
          exact i_val rfl (.pointer (some ⟨g, 7, none⟩)) w' (by rfl) (by go_simp) ⟨v43, v44, (.pointer (some ⟨g, 7, none⟩)), v46, v47, v48, v49, v50, v51, v52, v53, rfl, { hs with e45 := fun _ => rfl }, hw⟩
        | 3, _ =>
          have e45x := hs.e45 (haft 2 (by decide))
          subst e45x
          have q := (HH.out.cells w' (KF.out w' hw.g).2).1
          exact i_val rfl (.slice (some ⟨ab, off, none⟩) n1 m1) w' (by rfl) (by go_simp) ⟨v43, v44, (.pointer (some ⟨g, 7, none⟩)), (.slice (some ⟨ab, off, none⟩) n1 m1), v47, v48, v49, v50, v51, v52, v53, rfl, { hs with e46 := fun _ => rfl }, hw⟩
        | 4, _ =>
          exact i_val rfl (.int .i64 (k : Nat)) w' (by rfl) (by go_simp) ⟨v43, v44, v45, v46, (.int .i64 (k : Nat)), v48, v49, v50, v51, v52, v53, rfl, { hs with e47 := fun _ => rfl }, hw⟩
        | 5, _ =>
          have e46x := hs.e46 (haft 3 (by decide))
          subst e46x
          have e47x := hs.e47 (haft 4 (by decide))
          subst e47x
          exact i_val rfl (.pointer (some ⟨ab, off + k * 21, none⟩)) w' (by rfl) (by go_simp) ⟨v43, v44, v45, (.slice (some ⟨ab, off, none⟩) n1 m1), (.int .i64 (k : Nat)), (.pointer (some ⟨ab, off + k * 21, none⟩)), v49, v50, v51, v52, v53, rfl, { hs with e48 := fun _ => rfl }, hw⟩
        | 6, _ =>
          have e48x := hs.e48 (haft 5 (by decide))
          subst e48x
          exact i_val rfl (ppV y) w' (by rfl) (run_loadRange 70 _ rfl ab (off + k * 21) rfl (ppA y) _ (HR w' (KF.out w' hw.g).2) Try.underlying70 rfl (pp_info y)) ⟨v43, v44, v45, v46, v47, (.pointer (some ⟨ab, off + k * 21, none⟩)), (ppV y), v50, v51, v52, v53, rfl, { hs with e49 := fun _ => rfl }, hw⟩
        | 7, _ =>
          have e49x := hs.e49 (haft 6 (by decide))
          subst e49x
          exact i_call rfl (poV (toldP y)) 12 #[ppV y] (fun w2 => Below w'.heap.size w' w2) (by rfl) (by go_simp) (told_any y w') fun w2 hb => ⟨v43, v44, v45, v46, v47, v48, (ppV y), (poV (toldP y)), v51, v52, v53, rfl, { hs with e50 := fun _ => rfl }, hw.next hb⟩
        | 8, _ =>
          have e50x := hs.e50 (haft 7 (by decide))
          subst e50x
          exact i_val rfl (.slice (some ⟨w'.heap.size, 0, none⟩) 1 1) (w'.alloc (.cells (poA (toldP y)) 50)) (by rfl) (run_bs1 35 (.tmp 50) rfl (poV (toldP y)) _ rfl (one_po (toldP y) w')) ⟨v43, v44, v45, v46, v47, v48, v49, (poV (toldP y)), (.slice (some ⟨w'.heap.size, 0, none⟩) 1 1), v52, v53, rfl, { hs with }, hw.made poT hL _ rfl⟩
        | 9, _ =>
          have e44x := hs.e44 (haft 1 (by decide))
          subst e44x
          obtain ⟨u, w2, hrun, hw2⟩ := hw.app poT (haft 8 (by decide)) hL (by have := DL.out; omega) 35
          have hmk := haft 8 (by decide)
          exact i_wp rfl (by rfl) (wp_append_lst _ _ 35 rfl u w2 hrun ⟨v43, (.slice a k m), v45, v46, v47, v48, v49, v50, v51, u, v53, rfl, { hs with }, by rw [show upd Lx 9 8 = true from hmk]; exact hw2⟩)
        | 10, _ =>
          exact i_val rfl (.pointer (some ⟨c, 6, none⟩)) w' (by rfl) (by go_simp) ⟨v43, v44, v45, v46, v47, v48, v49, v50, v51, v52, (.pointer (some ⟨c, 6, none⟩)), rfl, { hs with e53 := fun _ => rfl }, hw⟩
        | k + 11, h =>
          exfalso
          have h2 : k + 11 < 11 := h
          omega
      intro Lx ac w' hI hall
      obtain ⟨v43, v44, v45, v46, v47, v48, v49, v50, v51, v52, v53, rfl, hs, hw⟩ := hI
      have e43y := hs.e43 (hall 0 (by decide))
      subst e43y
      have e44y := hs.e44 (hall 1 (by decide))
      subst e44y
      have e45y := hs.e45 (hall 2 (by decide))
      subst e45y
      have e46y := hs.e46 (hall 3 (by decide))
      subst e46y
      have e47y := hs.e47 (hall 4 (by decide))
      subst e47y
      have e48y := hs.e48 (hall 5 (by decide))
      subst e48y
      have e49y := hs.e49 (hall 6 (by decide))
      subst e49y
      have e50y := hs.e50 (hall 7 (by decide))
      subst e50y
      have e53y := hs.e53 (hall 10 (by decide))
      subst e53y
      have HA := Lib.hid hw
      rw [hall 8 (by decide), hall 9 (by decide)] at HA
      clear hs hall hw
      have GR := Lib.hid HA.out.g
      have AG := Lib.hid (show wj.grownBy w' (some c) from grown_high HI.out.gr HA.out.g (fun k hk => (HI.out.own.lt k hk).1))
      obtain ⟨q', r', eu, -⟩ := (HA.out.pr rfl).shape
      have OA := Lib.hid (HA.out.pr rfl)
      rw [tm_step HY.out] at eu OA
      rw [tm_len (by have := HH.out.rp.len; omega)] at eu
      subst eu
      have QK := Lib.hid (KF.out w' GR.out).1
      have Q1 := (st_cells QK.out).1
      have Q2 := QK.out.free 6
      refine i_skip rfl (w'.setCell ⟨c, 6, none⟩ (.slice q' (k + 1) r')) (by rfl) (by go_simp) ?_
      have KN := Lib.hid (show Blk (w'.setCell ⟨c, 6, none⟩ (.slice q' (k + 1) r')) c (stA (stK s (k + 1) 0 0 0) (.slice q' (k + 1) r') (.slice none 0 0) (.slice none 0 0) (.slice none 0 0)) 41 from QK.out.set 6 _)
      go_wp2_with fail
      go_roundw
      case rel => exact ⟨k + 1, q', r', by omega, by omega, by go_num, ⟨grown_set AG.out, KN.out, OA.out.setCell (a := ⟨c, 6, none⟩) (own_not OA.out CLT.out) _⟩⟩
      case measure => simp [intOf]; omega
    · have NX := Lib.hid (show MjW w1 c (stK s 16 0 0 0) (.slice a k m) (.slice none 0 0) (.slice none 0 0) (.slice none 0 0) wr by
        have TS := take_stop HH.out.rp.len hk hk2 hlt
        have HO := HI.out.own
        have HK := HI.out.kc
        rw [TS] at HO
        exact ⟨BL.out, HK, ⟨HO.mono CLT.out, Own.nil _ _ _ _ _, Own.nil _ _ _ _ _, Own.nil _ _ _ _ _, stK_few s (by omega) (by omega) (by omega) (by omega)⟩⟩)
      have HE := Lib.hid (show ¬ (k : Int) < (n1 : Int) ∨ ((k : Int) < (n1 : Int) ∧ ¬ (k : Int) < 16) by omega)
      clear hlt hk hk2
      rcases HE.out with g1 | ⟨g1, g2⟩
      all_goals
        go_wp2_with fail
        exact HKX.out _ _ (md_2 w0 w1 x zz g c s a1 n1 m1 a2 n2 m2 a3 n3 m3 a4 n4 m4 HH (.slice a k m)    _ _ _ _ _ _ _ _ _ _ _ _ _ _ _ _ _ _ _ _ _ _ _ _ _ _ _ _ _ _ _ _ _ _ _ _ _ _ _ _ _ _ _ _ _ _ _ _ _ _ _ _ _ _ _ _ _ _ _ _ _ _ _ _ _ _ _ _ _ _ _ _ _ _ _ _ _ _ _ _ _ _ _ _ _ _ _ _ _ _ _ _ _ _ _ _ _ _ _ _ _ _ _ _ _ _ _ _ _ _ _ _ _ _ _ _ _ _ _ _ _ _ _ _ _ _ _ _ _ _ _ _ _ _ _ _ _ _ _ _ _ _ _ _ _ _ _ _ _ _ _ _ _ _ _ _ _ _ _ _ _ _ _ _ _ _ _ _ _ _ _ _ _ wr NX.out)

end Go.Proofs.Ytpbdamnlfpfclaa
