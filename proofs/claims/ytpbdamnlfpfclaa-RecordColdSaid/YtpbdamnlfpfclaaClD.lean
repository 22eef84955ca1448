/- RecordCold: its end. -/
import Derived.Test.YtpbdamnlfpfclaaClA
namespace Go.Proofs.Ytpbdamnlfpfclaa
open Go.RowKit
attribute [local irreducible] wpQuiet
set_option linter.unusedSimpArgs false
set_option linter.unusedVariables false

/-- The slots, while the region runs. -/
structure Z24S (x A5 A6 : Array Value) (vid : Int) (g b5 b6 : Nat) (t : St) (f3 f7 f8 f9 f10 f11 f12 f13 f14 f15 f16 f17 f18 f19 f20 f21 f22 f23 f24 f25 f26 f27 f28 f29 f30 f31 f32 f33 f34 f35 f36 f37 f38 f39 f40 f41 f42 f43 f44 f45 f46 f47 f48 f49 f50 f51 f52 f53 f54 f55 f56 f57 f58 f59 f60 f61 f62 f63 f64 f65 f66 f67 f68 f69 f70 f71 f72 f73 f74 f75 f76 f77 f78 f79 f80 f81 f82 f83 f84 f85 f86 f87 f88 f89 f90 f91 f92 f93 f94 f95 f96 f97 f98 f99 f100 f101 f102 f103 f104 f105 f106 f107 f108 f109 f110 f111 f112 f113 f114 f115 f116 f117 f118 f119 f120 f121 f122 f123 f124 f125 f126 f127 f128 f129 f130 f131 f132 f133 f134 f135 f136 f137 f138 f139 f140 f141 f142 f143 f144 f145 f146 f147 f148 f149 f150 f151 f152 f153 f154 f155 f156 f157 f158 f159 f160 f161 f162 f163 : Value) (L : Nat → Bool) (v164 v165 v166 v167 v168 v169 v170 v171 v172 v173 v4 : Value) : Prop where
  e164 : L 0 = true → v164 = .agg A5
  e165 : L 1 = true → v165 = .agg x
  e167 : L 3 = true → v167 = .bool true
  e168 : L 4 = true → v168 = .bool true
  e169 : L 5 = true → v169 = .agg A6
  e171 : L 7 = true → v171 = .agg A6
  e172 : L 8 = true → v172 = .bool true
  e173 : L 9 = true → v173 = .bool true
  e4 : L 10 = true → v4 = .bool true
/-- The world. -/
structure Z24W (x A5 A6 : Array Value) (vid : Int) (g b5 b6 : Nat) (t : St) (wb : World) (L : Nat → Bool) (v166 v170 : Value) (w : World) : Prop where
  below : Below wb.heap.size wb w
  p166 : L 2 = true → IsSt w t v166
  p170 : L 6 = true → IsSt w (coldS t) v170
theorem Z24W.next (x A5 A6 : Array Value) (vid : Int) (g b5 b6 : Nat) (t : St) (wb : World) (L : Nat → Bool) (v166 v170 : Value) (w w' : World) (h : Z24W x A5 A6 vid g b5 b6 t wb L v166 v170 w) (hb : Below w.heap.size w w') : Z24W x A5 A6 vid g b5 b6 t wb L v166 v170 w' :=
  ⟨h.below.trans (hb.mono h.below.size), fun q => (h.p166 q).next hb, fun q => (h.p170 q).next hb⟩
abbrev Z24F (x A5 A6 : Array Value) (vid : Int) (g b5 b6 : Nat) (t : St) (f3 f7 f8 f9 f10 f11 f12 f13 f14 f15 f16 f17 f18 f19 f20 f21 f22 f23 f24 f25 f26 f27 f28 f29 f30 f31 f32 f33 f34 f35 f36 f37 f38 f39 f40 f41 f42 f43 f44 f45 f46 f47 f48 f49 f50 f51 f52 f53 f54 f55 f56 f57 f58 f59 f60 f61 f62 f63 f64 f65 f66 f67 f68 f69 f70 f71 f72 f73 f74 f75 f76 f77 f78 f79 f80 f81 f82 f83 f84 f85 f86 f87 f88 f89 f90 f91 f92 f93 f94 f95 f96 f97 f98 f99 f100 f101 f102 f103 f104 f105 f106 f107 f108 f109 f110 f111 f112 f113 f114 f115 f116 f117 f118 f119 f120 f121 f122 f123 f124 f125 f126 f127 f128 f129 f130 f131 f132 f133 f134 f135 f136 f137 f138 f139 f140 f141 f142 f143 f144 f145 f146 f147 f148 f149 f150 f151 f152 f153 f154 f155 f156 f157 f158 f159 f160 f161 f162 f163 : Value) (v164 v165 v166 v167 v168 v169 v170 v171 v172 v173 v4 : Value) : Act := { tmps := #[.agg x, .int .i64 vid, .pointer (some ⟨g, 0, none⟩), f3, v4, .pointer (some ⟨b5, 0, none⟩), .pointer (some ⟨b6, 0, none⟩), f7, f8, f9, f10, f11, f12, f13, f14, f15, f16, f17, f18, f19, f20, f21, f22, f23, f24, f25, f26, f27, f28, f29, f30, f31, f32, f33, f34, f35, f36, f37, f38, f39, f40, f41, f42, f43, f44, f45, f46, f47, f48, f49, f50, f51, f52, f53, f54, f55, f56, f57, f58, f59, f60, f61, f62, f63, f64, f65, f66, f67, f68, f69, f70, f71, f72, f73, f74, f75, f76, f77, f78, f79, f80, f81, f82, f83, f84, f85, f86, f87, f88, f89, f90, f91, f92, f93, f94, f95, f96, f97, f98, f99, f100, f101, f102, f103, f104, f105, f106, f107, f108, f109, f110, f111, f112, f113, f114, f115, f116, f117, f118, f119, f120, f121, f122, f123, f124, f125, f126, f127, f128, f129, f130, f131, f132, f133, f134, f135, f136, f137, f138, f139, f140, f141, f142, f143, f144, f145, f146, f147, f148, f149, f150, f151, f152, f153, f154, f155, f156, f157, f158, f159, f160, f161, f162, f163, v164, v165, v166, v167, v168, v169, v170, v171, v172, v173], defers := [] }
def Z24I (x A5 A6 : Array Value) (vid : Int) (g b5 b6 : Nat) (t : St) (f3 f7 f8 f9 f10 f11 f12 f13 f14 f15 f16 f17 f18 f19 f20 f21 f22 f23 f24 f25 f26 f27 f28 f29 f30 f31 f32 f33 f34 f35 f36 f37 f38 f39 f40 f41 f42 f43 f44 f45 f46 f47 f48 f49 f50 f51 f52 f53 f54 f55 f56 f57 f58 f59 f60 f61 f62 f63 f64 f65 f66 f67 f68 f69 f70 f71 f72 f73 f74 f75 f76 f77 f78 f79 f80 f81 f82 f83 f84 f85 f86 f87 f88 f89 f90 f91 f92 f93 f94 f95 f96 f97 f98 f99 f100 f101 f102 f103 f104 f105 f106 f107 f108 f109 f110 f111 f112 f113 f114 f115 f116 f117 f118 f119 f120 f121 f122 f123 f124 f125 f126 f127 f128 f129 f130 f131 f132 f133 f134 f135 f136 f137 f138 f139 f140 f141 f142 f143 f144 f145 f146 f147 f148 f149 f150 f151 f152 f153 f154 f155 f156 f157 f158 f159 f160 f161 f162 f163 : Value) (wb : World) (L : Nat → Bool) (ac : Act) (w : World) : Prop :=
  ∃ v164 v165 v166 v167 v168 v169 v170 v171 v172 v173 v4, ac = Z24F x A5 A6 vid g b5 b6 t f3 f7 f8 f9 f10 f11 f12 f13 f14 f15 f16 f17 f18 f19 f20 f21 f22 f23 f24 f25 f26 f27 f28 f29 f30 f31 f32 f33 f34 f35 f36 f37 f38 f39 f40 f41 f42 f43 f44 f45 f46 f47 f48 f49 f50 f51 f52 f53 f54 f55 f56 f57 f58 f59 f60 f61 f62 f63 f64 f65 f66 f67 f68 f69 f70 f71 f72 f73 f74 f75 f76 f77 f78 f79 f80 f81 f82 f83 f84 f85 f86 f87 f88 f89 f90 f91 f92 f93 f94 f95 f96 f97 f98 f99 f100 f101 f102 f103 f104 f105 f106 f107 f108 f109 f110 f111 f112 f113 f114 f115 f116 f117 f118 f119 f120 f121 f122 f123 f124 f125 f126 f127 f128 f129 f130 f131 f132 f133 f134 f135 f136 f137 f138 f139 f140 f141 f142 f143 f144 f145 f146 f147 f148 f149 f150 f151 f152 f153 f154 f155 f156 f157 f158 f159 f160 f161 f162 f163 v164 v165 v166 v167 v168 v169 v170 v171 v172 v173 v4 ∧ Z24S x A5 A6 vid g b5 b6 t f3 f7 f8 f9 f10 f11 f12 f13 f14 f15 f16 f17 f18 f19 f20 f21 f22 f23 f24 f25 f26 f27 f28 f29 f30 f31 f32 f33 f34 f35 f36 f37 f38 f39 f40 f41 f42 f43 f44 f45 f46 f47 f48 f49 f50 f51 f52 f53 f54 f55 f56 f57 f58 f59 f60 f61 f62 f63 f64 f65 f66 f67 f68 f69 f70 f71 f72 f73 f74 f75 f76 f77 f78 f79 f80 f81 f82 f83 f84 f85 f86 f87 f88 f89 f90 f91 f92 f93 f94 f95 f96 f97 f98 f99 f100 f101 f102 f103 f104 f105 f106 f107 f108 f109 f110 f111 f112 f113 f114 f115 f116 f117 f118 f119 f120 f121 f122 f123 f124 f125 f126 f127 f128 f129 f130 f131 f132 f133 f134 f135 f136 f137 f138 f139 f140 f141 f142 f143 f144 f145 f146 f147 f148 f149 f150 f151 f152 f153 f154 f155 f156 f157 f158 f159 f160 f161 f162 f163 L v164 v165 v166 v167 v168 v169 v170 v171 v172 v173 v4 ∧ Z24W x A5 A6 vid g b5 b6 t wb L v166 v170 w
set_option maxRecDepth 100000 in
set_option maxHeartbeats 16000000 in
theorem c24 (w0 wB : World) (x A5 A6 : Array Value) (vid : Int) (g b5 b6 : Nat) (t : St) (a1 : Option Addr) (n1 c1 : Nat) (d1 : Option Addr) (e1 : Nat) (a2 : Option Addr) (n2 c2 : Nat) (d2 : Option Addr) (e2 : Nat) (a3 : Option Addr) (n3 c3 : Nat) (d3 : Option Addr) (e3 : Nat) (y4 : Value) (HH : Hid (ClH w0 wB x A5 A6 g b5 b6 t a1 n1 c1 d1 e1 a2 n2 c2 d2 e2 a3 n3 c3 d3 e3 y4)) (f3 f4 f7 f8 f9 f10 f11 f12 f13 f14 f15 f16 f17 f18 f19 f20 f21 f22 f23 f24 f25 f26 f27 f28 f29 f30 f31 f32 f33 f34 f35 f36 f37 f38 f39 f40 f41 f42 f43 f44 f45 f46 f47 f48 f49 f50 f51 f52 f53 f54 f55 f56 f57 f58 f59 f60 f61 f62 f63 f64 f65 f66 f67 f68 f69 f70 f71 f72 f73 f74 f75 f76 f77 f78 f79 f80 f81 f82 f83 f84 f85 f86 f87 f88 f89 f90 f91 f92 f93 f94 f95 f96 f97 f98 f99 f100 f101 f102 f103 f104 f105 f106 f107 f108 f109 f110 f111 f112 f113 f114 f115 f116 f117 f118 f119 f120 f121 f122 f123 f124 f125 f126 f127 f128 f129 f130 f131 f132 f133 f134 f135 f136 f137 f138 f139 f140 f141 f142 f143 f144 f145 f146 f147 f148 f149 f150 f151 f152 f153 f154 f155 f156 f157 f158 f159 f160 f161 f162 f163 f164 f165 f166 f167 f168 f169 f170 f171 f172 f173 : Value) (wj : World) (KC : Below wB.heap.size wB wj) :
    Code.wp Try.prog (tail3 24) (bodyPost Try.prog Try.f3 fun e w' => e = .returned (.bool true) ∧ Below w0.heap.size w0 w') { tmps := #[.agg x, .int .i64 vid, .pointer (some ⟨g, 0, none⟩), f3, f4, .pointer (some ⟨b5, 0, none⟩), .pointer (some ⟨b6, 0, none⟩), f7, f8, f9, f10, f11, f12, f13, f14, f15, f16, f17, f18, f19, f20, f21, f22, f23, f24, f25, f26, f27, f28, f29, f30, f31, f32, f33, f34, f35, f36, f37, f38, f39, f40, f41, f42, f43, f44, f45, f46, f47, f48, f49, f50, f51, f52, f53, f54, f55, f56, f57, f58, f59, f60, f61, f62, f63, f64, f65, f66, f67, f68, f69, f70, f71, f72, f73, f74, f75, f76, f77, f78, f79, f80, f81, f82, f83, f84, f85, f86, f87, f88, f89, f90, f91, f92, f93, f94, f95, f96, f97, f98, f99, f100, f101, f102, f103, f104, f105, f106, f107, f108, f109, f110, f111, f112, f113, f114, f115, f116, f117, f118, f119, f120, f121, f122, f123, f124, f125, f126, f127, f128, f129, f130, f131, f132, f133, f134, f135, f136, f137, f138, f139, f140, f141, f142, f143, f144, f145, f146, f147, f148, f149, f150, f151, f152, f153, f154, f155, f156, f157, f158, f159, f160, f161, f162, f163, f164, f165, f166, f167, f168, f169, f170, f171, f172, f173], defers := [] } wj := by
  have K0 := Lib.hid KC
  clear KC
  conv => arg 2; whnf
  conv => arg 4; zeta
  go_upto_region 24 with fail
  refine wp_region_inv (I := Z24I x A5 A6 vid g b5 b6 t _ _ _ _ _ _ _ _ _ _ _ _ _ _ _ _ _ _ _ _ _ _ _ _ _ _ _ _ _ _ _ _ _ _ _ _ _ _ _ _ _ _ _ _ _ _ _ _ _ _ _ _ _ _ _ _ _ _ _ _ _ _ _ _ _ _ _ _ _ _ _ _ _ _ _ _ _ _ _ _ _ _ _ _ _ _ _ _ _ _ _ _ _ _ _ _ _ _ _ _ _ _ _ _ _ _ _ _ _ _ _ _ _ _ _ _ _ _ _ _ _ _ _ _ _ _ _ _ _ _ _ _ _ _ _ _ _ _ _ _ _ _ _ _ _ _ _ _ _ _ _ _ _ _ _ _ _ _ wj) (by kernel_rfl) (by kernel_rfl) ⟨_, _, _, _, _, _, _, _, _, _, _, rfl, ⟨(fun h => Bool.noConfusion h), (fun h => Bool.noConfusion h), (fun h => Bool.noConfusion h), (fun h => Bool.noConfusion h), (fun h => Bool.noConfusion h), (fun h => Bool.noConfusion h), (fun h => Bool.noConfusion h), (fun h => Bool.noConfusion h), (fun h => Bool.noConfusion h)⟩, ⟨(Below.refl _ _).drew, (fun h => Bool.noConfusion h), (fun h => Bool.noConfusion h)⟩⟩ ?_ ?_
  · intro o ho Lx ac w' hI hL haft
    obtain ⟨v164, v165, v166, v167, v168, v169, v170, v171, v172, v173, v4, rfl, hs, hw⟩ := hI
    match o, ho with
    | 0, _ =>
      exact i_val rfl (.agg A5) w' (by rfl) (run_loadVar_of 41 _ rfl b5 rfl 41 A5 _ (HH.out.k5.below (K0.out.trans (hw.below.mono K0.out.size)) HH.out.k5.lt) Try.underlying41 rfl HH.out.i5) ⟨(.agg A5), v165, v166, v167, v168, v169, v170, v171, v172, v173, v4, rfl, { hs with e164 := fun _ => rfl }, { hw with }⟩
    | 1, _ =>
      exact i_val rfl (.agg x) w' (by rfl) (run_loadVar_of 30 _ rfl g rfl 30 x _ (HH.out.ki.below (K0.out.trans (hw.below.mono K0.out.size)) HH.out.ki.lt) Try.underlying30 rfl HH.out.xi) ⟨v164, (.agg x), v166, v167, v168, v169, v170, v171, v172, v173, v4, rfl, { hs with e165 := fun _ => rfl }, { hw with }⟩
    | 2, _ =>
      have e165x := hs.e165 (haft 1 (by decide))
      subst e165x
      refine i_callx rfl 6 #[.agg x] (fun v w2 => IsSt w2 t v ∧ Below w'.heap.size w' w2) (by rfl) (by go_simp) (HH.out.made w' (K0.out.trans (hw.below.mono K0.out.size))) ?_
      intro u w2 ⟨hq, hb⟩
      exact ⟨v164, (.agg x), u, v167, v168, v169, v170, v171, v172, v173, v4, rfl, { hs with }, { hw.next (hb := hb) with p166 := fun _ => hq }⟩
    | 3, _ =>
      have e164x := hs.e164 (haft 0 (by decide))
      subst e164x
      have p166x := hw.p166 (haft 2 (by decide))
      exact i_call rfl (.bool true) 10 #[.agg A5, v166] (fun w2 => Below w'.heap.size w' w2) (by rfl) (by go_simp) (by have h := same_is (HH.out.is5 w' (K0.out.trans (hw.below.mono K0.out.size))) p166x; rwa [sameB_self] at h) fun w2 hb => ⟨(.agg A5), v165, v166, (.bool true), v168, v169, v170, v171, v172, v173, v4, rfl, { hs with e167 := fun _ => rfl }, { hw.next (hb := hb) with }⟩
    | 4, _ =>
      have e167x := hs.e167 (haft 3 (by decide))
      subst e167x
      exact i_val rfl (.bool true) w' (by rfl) (by go_simp) ⟨v164, v165, v166, (.bool true), (.bool true), v169, v170, v171, v172, v173, v4, rfl, { hs with e168 := fun _ => rfl }, { hw with }⟩
    | 5, _ =>
      have e168x := hs.e168 (haft 4 (by decide))
      subst e168x
      exact i_val rfl (.agg A6) w' (by rfl) (run_loadVar_of 41 _ rfl b6 rfl 41 A6 _ (HH.out.k6.below (K0.out.trans (hw.below.mono K0.out.size)) HH.out.k6.lt) Try.underlying41 rfl HH.out.i6) ⟨v164, v165, v166, v167, (.bool true), (.agg A6), v170, v171, v172, v173, v4, rfl, { hs with e169 := fun _ => rfl }, { hw with }⟩
    | 6, _ =>
      have e168x := hs.e168 (haft 4 (by decide))
      subst e168x
      have e169x := hs.e169 (haft 5 (by decide))
      subst e169x
      refine i_callx rfl 7 #[.agg A6] (fun v w2 => IsSt w2 (coldS t) v ∧ Below w'.heap.size w' w2) (by rfl) (by go_simp) (by have h := cold_is (HH.out.is6 w' (K0.out.trans (hw.below.mono K0.out.size))); rwa [cold_again] at h) ?_
      intro u w2 ⟨hq, hb⟩
      exact ⟨v164, v165, v166, v167, (.bool true), (.agg A6), u, v171, v172, v173, v4, rfl, { hs with }, { hw.next (hb := hb) with p170 := fun _ => hq }⟩
    | 7, _ =>
      have e168x := hs.e168 (haft 4 (by decide))
      subst e168x
      exact i_val rfl (.agg A6) w' (by rfl) (run_loadVar_of 41 _ rfl b6 rfl 41 A6 _ (HH.out.k6.below (K0.out.trans (hw.below.mono K0.out.size)) HH.out.k6.lt) Try.underlying41 rfl HH.out.i6) ⟨v164, v165, v166, v167, (.bool true), v169, v170, (.agg A6), v172, v173, v4, rfl, { hs with e171 := fun _ => rfl }, { hw with }⟩
    | 8, _ =>
      have e168x := hs.e168 (haft 4 (by decide))
      subst e168x
      have p170x := hw.p170 (haft 6 (by decide))
      have e171x := hs.e171 (haft 7 (by decide))
      subst e171x
      exact i_call rfl (.bool true) 10 #[v170, .agg A6] (fun w2 => Below w'.heap.size w' w2) (by rfl) (by go_simp) (by have h := same_is p170x (HH.out.is6 w' (K0.out.trans (hw.below.mono K0.out.size))); rwa [sameB_self] at h) fun w2 hb => ⟨v164, v165, v166, v167, (.bool true), v169, v170, (.agg A6), (.bool true), v173, v4, rfl, { hs with e172 := fun _ => rfl }, { hw.next (hb := hb) with }⟩
    | 9, _ =>
      have e168x := hs.e168 (haft 4 (by decide))
      subst e168x
      have e172x := hs.e172 (haft 8 (by decide))
      subst e172x
      exact i_val rfl (.bool true) w' (by rfl) (by go_simp) ⟨v164, v165, v166, v167, (.bool true), v169, v170, v171, (.bool true), (.bool true), v4, rfl, { hs with e173 := fun _ => rfl }, { hw with }⟩
    | 10, _ =>
      have e173x := hs.e173 (haft 9 (by decide))
      subst e173x
      exact i_val rfl (.bool true) w' (by rfl) (by go_simp) ⟨v164, v165, v166, v167, v168, v169, v170, v171, v172, (.bool true), (.bool true), rfl, { hs with e4 := fun _ => rfl }, { hw with }⟩
    | k + 11, h =>
      exfalso
      have h2 : k + 11 < 11 := h
      omega
  intro Lx ac w9 hI hall
  obtain ⟨v164, v165, v166, v167, v168, v169, v170, v171, v172, v173, v4, rfl, hs, hw⟩ := hI
  have e164y := hs.e164 (hall 0 (by decide))
  subst e164y
  have e165y := hs.e165 (hall 1 (by decide))
  subst e165y
  have e167y := hs.e167 (hall 3 (by decide))
  subst e167y
  have e168y := hs.e168 (hall 4 (by decide))
  subst e168y
  have e169y := hs.e169 (hall 5 (by decide))
  subst e169y
  have e171y := hs.e171 (hall 7 (by decide))
  subst e171y
  have e172y := hs.e172 (hall 8 (by decide))
  subst e172y
  have e173y := hs.e173 (hall 9 (by decide))
  subst e173y
  have e4y := hs.e4 (hall 10 (by decide))
  subst e4y
  have W9 := Lib.hid hw.below
  clear hs hall hw
  go_wp2_with fail
  go_ret
  exact ⟨rfl, HH.out.below.trans ((K0.out.trans (W9.out.mono K0.out.size)).mono HH.out.below.size)⟩

end Go.Proofs.Ytpbdamnlfpfclaa
