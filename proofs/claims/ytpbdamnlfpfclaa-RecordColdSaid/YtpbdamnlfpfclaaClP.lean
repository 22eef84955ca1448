/- RecordCold: its loop 1. -/
import Derived.Test.YtpbdamnlfpfclaaClB
import Derived.Test.YtpbdamnlfpfclaaThree
namespace Go.Proofs.Ytpbdamnlfpfclaa
open Go.RowKit
attribute [local irreducible] wpQuiet
set_option linter.unusedSimpArgs false
set_option linter.unusedVariables false

/-- The slots, while two rows are copied. -/
structure Q10S (x : Array Value) (vid : Int) (g b5 b6 p5 p6 k n1 e1 c1 : Nat) (y : Po) (f3 f4 f10 f11 f12 f13 f14 f15 f16 f17 f18 f19 f20 f21 f22 f23 f24 f25 f26 f27 f28 f29 f30 f31 f32 f33 f34 f35 f36 f37 f38 f39 f40 f41 f42 f43 f44 f45 f46 f47 f48 f49 f50 f51 f52 f53 f54 f55 f56 f57 f58 f59 f60 f61 f62 f63 f64 f65 f66 f67 f68 f69 f70 f71 f72 f73 f74 f85 f86 f87 f88 f89 f90 f91 f92 f93 f94 f95 f96 f97 f98 f99 f100 f101 f102 f103 f104 f105 f106 f107 f108 f109 f110 f111 f112 f113 f114 f115 f116 f117 f118 f119 f120 f121 f122 f123 f124 f125 f126 f127 f128 f129 f130 f131 f132 f133 f134 f135 f136 f137 f138 f139 f140 f141 f142 f143 f144 f145 f146 f147 f148 f149 f150 f151 f152 f153 f154 f155 f156 f157 f158 f159 f160 f161 f162 f163 f164 f165 f166 f167 f168 f169 f170 f171 f172 f173 : Value) (L : Nat → Bool) (v75 v76 v77 v78 v79 v80 v81 v82 v83 v84 v8 v9 : Value) : Prop where
  e75 : L 0 = true → v75 = .pointer (some ⟨b6, 6, none⟩)
  e76 : L 1 = true → v76 = .slice (some ⟨p6, 0, none⟩) n1 e1
  e77 : L 2 = true → v77 = .int .i64 (k : Nat)
  e78 : L 3 = true → v78 = .pointer (some ⟨p6, k * 21, none⟩)
  e79 : L 4 = true → v79 = poV (coldP y)
  e80 : L 5 = true → v80 = .pointer (some ⟨b5, 6, none⟩)
  e81 : L 6 = true → v81 = .slice (some ⟨p5, 0, none⟩) n1 c1
  e82 : L 7 = true → v82 = .int .i64 (k : Nat)
  e83 : L 8 = true → v83 = .pointer (some ⟨p5, k * 21, none⟩)
  e84 : L 9 = true → v84 = poV y
abbrev Q10F (x : Array Value) (vid : Int) (g b5 b6 p5 p6 k n1 e1 c1 : Nat) (y : Po) (f3 f4 f10 f11 f12 f13 f14 f15 f16 f17 f18 f19 f20 f21 f22 f23 f24 f25 f26 f27 f28 f29 f30 f31 f32 f33 f34 f35 f36 f37 f38 f39 f40 f41 f42 f43 f44 f45 f46 f47 f48 f49 f50 f51 f52 f53 f54 f55 f56 f57 f58 f59 f60 f61 f62 f63 f64 f65 f66 f67 f68 f69 f70 f71 f72 f73 f74 f85 f86 f87 f88 f89 f90 f91 f92 f93 f94 f95 f96 f97 f98 f99 f100 f101 f102 f103 f104 f105 f106 f107 f108 f109 f110 f111 f112 f113 f114 f115 f116 f117 f118 f119 f120 f121 f122 f123 f124 f125 f126 f127 f128 f129 f130 f131 f132 f133 f134 f135 f136 f137 f138 f139 f140 f141 f142 f143 f144 f145 f146 f147 f148 f149 f150 f151 f152 f153 f154 f155 f156 f157 f158 f159 f160 f161 f162 f163 f164 f165 f166 f167 f168 f169 f170 f171 f172 f173 : Value) (v75 v76 v77 v78 v79 v80 v81 v82 v83 v84 v8 v9 : Value) : Act := { tmps := #[.agg x, .int .i64 vid, .pointer (some ⟨g, 0, none⟩), f3, f4, .pointer (some ⟨b5, 0, none⟩), .pointer (some ⟨b6, 0, none⟩), .int .i64 (k : Nat), v8, v9, f10, f11, f12, f13, f14, f15, f16, f17, f18, f19, f20, f21, f22, f23, f24, f25, f26, f27, f28, f29, f30, f31, f32, f33, f34, f35, f36, f37, f38, f39, f40, f41, f42, f43, f44, f45, f46, f47, f48, f49, f50, f51, f52, f53, f54, f55, f56, f57, f58, f59, f60, f61, f62, f63, f64, f65, f66, f67, f68, f69, f70, f71, f72, f73, f74, v75, v76, v77, v78, v79, v80, v81, v82, v83, v84, f85, f86, f87, f88, f89, f90, f91, f92, f93, f94, f95, f96, f97, f98, f99, f100, f101, f102, f103, f104, f105, f106, f107, f108, f109, f110, f111, f112, f113, f114, f115, f116, f117, f118, f119, f120, f121, f122, f123, f124, f125, f126, f127, f128, f129, f130, f131, f132, f133, f134, f135, f136, f137, f138, f139, f140, f141, f142, f143, f144, f145, f146, f147, f148, f149, f150, f151, f152, f153, f154, f155, f156, f157, f158, f159, f160, f161, f162, f163, f164, f165, f166, f167, f168, f169, f170, f171, f172, f173], defers := [] }
def Q10I (x : Array Value) (vid : Int) (g b5 b6 p5 p6 k n1 e1 c1 : Nat) (y : Po) (f3 f4 f10 f11 f12 f13 f14 f15 f16 f17 f18 f19 f20 f21 f22 f23 f24 f25 f26 f27 f28 f29 f30 f31 f32 f33 f34 f35 f36 f37 f38 f39 f40 f41 f42 f43 f44 f45 f46 f47 f48 f49 f50 f51 f52 f53 f54 f55 f56 f57 f58 f59 f60 f61 f62 f63 f64 f65 f66 f67 f68 f69 f70 f71 f72 f73 f74 f85 f86 f87 f88 f89 f90 f91 f92 f93 f94 f95 f96 f97 f98 f99 f100 f101 f102 f103 f104 f105 f106 f107 f108 f109 f110 f111 f112 f113 f114 f115 f116 f117 f118 f119 f120 f121 f122 f123 f124 f125 f126 f127 f128 f129 f130 f131 f132 f133 f134 f135 f136 f137 f138 f139 f140 f141 f142 f143 f144 f145 f146 f147 f148 f149 f150 f151 f152 f153 f154 f155 f156 f157 f158 f159 f160 f161 f162 f163 f164 f165 f166 f167 f168 f169 f170 f171 f172 f173 : Value) (wb : World) (L : Nat → Bool) (ac : Act) (w : World) : Prop :=
  ∃ v75 v76 v77 v78 v79 v80 v81 v82 v83 v84 v8 v9, ac = Q10F x vid g b5 b6 p5 p6 k n1 e1 c1 y f3 f4 f10 f11 f12 f13 f14 f15 f16 f17 f18 f19 f20 f21 f22 f23 f24 f25 f26 f27 f28 f29 f30 f31 f32 f33 f34 f35 f36 f37 f38 f39 f40 f41 f42 f43 f44 f45 f46 f47 f48 f49 f50 f51 f52 f53 f54 f55 f56 f57 f58 f59 f60 f61 f62 f63 f64 f65 f66 f67 f68 f69 f70 f71 f72 f73 f74 f85 f86 f87 f88 f89 f90 f91 f92 f93 f94 f95 f96 f97 f98 f99 f100 f101 f102 f103 f104 f105 f106 f107 f108 f109 f110 f111 f112 f113 f114 f115 f116 f117 f118 f119 f120 f121 f122 f123 f124 f125 f126 f127 f128 f129 f130 f131 f132 f133 f134 f135 f136 f137 f138 f139 f140 f141 f142 f143 f144 f145 f146 f147 f148 f149 f150 f151 f152 f153 f154 f155 f156 f157 f158 f159 f160 f161 f162 f163 f164 f165 f166 f167 f168 f169 f170 f171 f172 f173 v75 v76 v77 v78 v79 v80 v81 v82 v83 v84 v8 v9 ∧ Q10S x vid g b5 b6 p5 p6 k n1 e1 c1 y f3 f4 f10 f11 f12 f13 f14 f15 f16 f17 f18 f19 f20 f21 f22 f23 f24 f25 f26 f27 f28 f29 f30 f31 f32 f33 f34 f35 f36 f37 f38 f39 f40 f41 f42 f43 f44 f45 f46 f47 f48 f49 f50 f51 f52 f53 f54 f55 f56 f57 f58 f59 f60 f61 f62 f63 f64 f65 f66 f67 f68 f69 f70 f71 f72 f73 f74 f85 f86 f87 f88 f89 f90 f91 f92 f93 f94 f95 f96 f97 f98 f99 f100 f101 f102 f103 f104 f105 f106 f107 f108 f109 f110 f111 f112 f113 f114 f115 f116 f117 f118 f119 f120 f121 f122 f123 f124 f125 f126 f127 f128 f129 f130 f131 f132 f133 f134 f135 f136 f137 f138 f139 f140 f141 f142 f143 f144 f145 f146 f147 f148 f149 f150 f151 f152 f153 f154 f155 f156 f157 f158 f159 f160 f161 f162 f163 f164 f165 f166 f167 f168 f169 f170 f171 f172 f173 L v75 v76 v77 v78 v79 v80 v81 v82 v83 v84 v8 v9 ∧ W3 wb 50 21 (poA (coldP y)) (poA y) nil21 (L 10) (L 11) false (L 12) (L 13) false v8 v9 undef w
theorem id_wide (a m : Int) : IntKind.u16.wrap (IntKind.u64.wrap (IntKind.u64.wrap (IntKind.u64.wrap a * 4096) + IntKind.u64.wrap m)) = IntKind.u16.wrap (IntKind.u16.wrap (IntKind.u16.wrap a * 4096) + IntKind.u16.wrap m) := by
  simp only [IntKind.wrap, IntKind.bits, IntKind.signed]
  simp
  omega
set_option maxRecDepth 100000 in
set_option maxHeartbeats 16000000 in
theorem c7 (w0 wB : World) (x A5 A6 : Array Value) (vid : Int) (g b5 b6 : Nat) (t : St) (a1 : Option Addr) (n1 c1 : Nat) (d1 : Option Addr) (e1 : Nat) (a2 : Option Addr) (n2 c2 : Nat) (d2 : Option Addr) (e2 : Nat) (a3 : Option Addr) (n3 c3 : Nat) (d3 : Option Addr) (e3 : Nat) (y4 : Value) (HH : Hid (ClH w0 wB x A5 A6 g b5 b6 t a1 n1 c1 d1 e1 a2 n2 c2 d2 e2 a3 n3 c3 d3 e3 y4)) (f3 f4 f7 f8 f9 f10 f11 f12 f13 f14 f15 f16 f17 f18 f19 f20 f21 f22 f23 f24 f25 f26 f27 f28 f29 f30 f31 f32 f33 f34 f35 f36 f37 f38 f39 f40 f41 f42 f43 f44 f45 f46 f47 f48 f49 f50 f51 f52 f53 f54 f55 f56 f57 f58 f59 f60 f61 f62 f63 f64 f65 f66 f67 f68 f69 f70 f71 f72 f73 f74 f75 f76 f77 f78 f79 f80 f81 f82 f83 f84 f85 f86 f87 f88 f89 f90 f91 f92 f93 f94 f95 f96 f97 f98 f99 f100 f101 f102 f103 f104 f105 f106 f107 f108 f109 f110 f111 f112 f113 f114 f115 f116 f117 f118 f119 f120 f121 f122 f123 f124 f125 f126 f127 f128 f129 f130 f131 f132 f133 f134 f135 f136 f137 f138 f139 f140 f141 f142 f143 f144 f145 f146 f147 f148 f149 f150 f151 f152 f153 f154 f155 f156 f157 f158 f159 f160 f161 f162 f163 f164 f165 f166 f167 f168 f169 f170 f171 f172 f173 : Value) (wj : World) (KC : Below wB.heap.size wB wj) :
    Code.wp Try.prog (tail3 7) (bodyPost Try.prog Try.f3 fun e w' => e = .returned (.bool true) ∧ Below w0.heap.size w0 w') { tmps := #[.agg x, .int .i64 vid, .pointer (some ⟨g, 0, none⟩), f3, f4, .pointer (some ⟨b5, 0, none⟩), .pointer (some ⟨b6, 0, none⟩), f7, f8, f9, f10, f11, f12, f13, f14, f15, f16, f17, f18, f19, f20, f21, f22, f23, f24, f25, f26, f27, f28, f29, f30, f31, f32, f33, f34, f35, f36, f37, f38, f39, f40, f41, f42, f43, f44, f45, f46, f47, f48, f49, f50, f51, f52, f53, f54, f55, f56, f57, f58, f59, f60, f61, f62, f63, f64, f65, f66, f67, f68, f69, f70, f71, f72, f73, f74, f75, f76, f77, f78, f79, f80, f81, f82, f83, f84, f85, f86, f87, f88, f89, f90, f91, f92, f93, f94, f95, f96, f97, f98, f99, f100, f101, f102, f103, f104, f105, f106, f107, f108, f109, f110, f111, f112, f113, f114, f115, f116, f117, f118, f119, f120, f121, f122, f123, f124, f125, f126, f127, f128, f129, f130, f131, f132, f133, f134, f135, f136, f137, f138, f139, f140, f141, f142, f143, f144, f145, f146, f147, f148, f149, f150, f151, f152, f153, f154, f155, f156, f157, f158, f159, f160, f161, f162, f163, f164, f165, f166, f167, f168, f169, f170, f171, f172, f173], defers := [] } wj := by
  have K0 := Lib.hid KC
  clear KC
  conv => arg 2; whnf
  conv => arg 4; zeta
  go_upto_region 8 with fail
  rename_i KX hKX
  have HKX := Lib.hid hKX
  clear hKX
  have CA := Lib.hid (own_cap HH.out.o5.o1)
  have CB := Lib.hid (own_cap HH.out.o6.o1)
  have hlc : (n1 : Int) ≤ 9223372036854775807 := by have q1 := CA.out.1; have q2 := CA.out.2; unfold maxLen at *; omega
  go_loopw [7] (fun i wr => ∃ k : Nat, k ≤ n1 ∧ i = .int .i64 k ∧ Below wB.heap.size wB wr) (fun i _ => (n1 - intOf i).toNat)
  case atStart => exact ⟨0, by omega, rfl, K0.out⟩
  case round =>
    obtain ⟨k, hk, rfl, hI⟩ := hrel
    have HI := Lib.hid hI
    clear hI
    have cq := (HH.out.c6 wr HI.out).1
    by_cases hlt : k < n1
    · obtain ⟨y, hy⟩ : ∃ y, t.po[k]? = some y := ⟨_, List.getElem?_eq_getElem (show k < t.po.length by rw [← HH.out.l1]; exact hlt)⟩
      have o5 := HH.out.o5.o1
      have o6 := HH.out.o6.o1
      rw [HH.out.l1] at o5 o6
      rw [show t.po.length = (coldS t).po.length by simp [coldS]] at o6
      obtain ⟨p5, r1, -, -, R5⟩ := Own.elem po_len o5 hy
      obtain ⟨p6, r2, -, -, R6⟩ := Own.elem (x := coldP y) po_len o6 (show (coldS t).po[k]? = some (coldP y) by simp [coldS, hy])
      subst r1
      subst r2
      have R5 := Lib.hid R5
      have R6 := Lib.hid R6
      clear o5 o6 hy
      have hkc : k ≤ c1 := by have := CA.out.1; omega
      have hkd : k ≤ e1 := by have := CB.out.1; omega
      have hnc : n1 ≤ c1 := CA.out.1
      have hnd : n1 ≤ e1 := CB.out.1
      have EQ := Lib.hid (show ∀ W, (Op.equalIn 10000 50 (poV (coldP y)) (poV (coldP y))).run Try.prog W = .ok true W from fun W => by rw [equal_po _ _ W, eqB_self])
      have CC := Lib.hid (show ∀ W, Below wr.heap.size wr W → W.cell? ⟨b6, 6, none⟩ = some (.slice (some ⟨p6, 0, none⟩) n1 e1) ∧ W.cell? ⟨b5, 6, none⟩ = some (.slice (some ⟨p5, 0, none⟩) n1 c1) from fun W hW => ⟨(HH.out.c6 W (HI.out.trans (hW.mono HI.out.size))).1, (HH.out.c5 W (HI.out.trans (hW.mono HI.out.size))).1⟩)
      have BE := Lib.hid (show ∀ W, Below wr.heap.size wr W → Below wB.heap.size wB W from fun W hW => HI.out.trans (hW.mono HI.out.size))
      go_upto_region 10 with fail
      refine wp_region_inv (I := Q10I x vid g b5 b6 p5 p6 k n1 e1 c1 y _ _ _ _ _ _ _ _ _ _ _ _ _ _ _ _ _ _ _ _ _ _ _ _ _ _ _ _ _ _ _ _ _ _ _ _ _ _ _ _ _ _ _ _ _ _ _ _ _ _ _ _ _ _ _ _ _ _ _ _ _ _ _ _ _ _ _ _ _ _ _ _ _ _ _ _ _ _ _ _ _ _ _ _ _ _ _ _ _ _ _ _ _ _ _ _ _ _ _ _ _ _ _ _ _ _ _ _ _ _ _ _ _ _ _ _ _ _ _ _ _ _ _ _ _ _ _ _ _ _ _ _ _ _ _ _ _ _ _ _ _ _ _ _ _ _ _ _ _ _ _ _ _ _ _ _ wr) (by kernel_rfl) (by kernel_rfl) ⟨_, _, _, _, _, _, _, _, _, _, _, _, rfl, ⟨(fun h => Bool.noConfusion h), (fun h => Bool.noConfusion h), (fun h => Bool.noConfusion h), (fun h => Bool.noConfusion h), (fun h => Bool.noConfusion h), (fun h => Bool.noConfusion h), (fun h => Bool.noConfusion h), (fun h => Bool.noConfusion h), (fun h => Bool.noConfusion h), (fun h => Bool.noConfusion h)⟩, W3.start wr⟩ ?_ ?_
      · intro o ho Lx ac w' hI hL haft
        obtain ⟨v75, v76, v77, v78, v79, v80, v81, v82, v83, v84, v8, v9, rfl, hs, hw⟩ := hI
        match o, ho with
        | 0, _ =>
          exact i_val rfl (.pointer (some ⟨b6, 6, none⟩)) w' (by rfl) (by go_simp) ⟨(.pointer (some ⟨b6, 6, none⟩)), v76, v77, v78, v79, v80, v81, v82, v83, v84, v8, v9, rfl, { hs with e75 := fun _ => rfl }, hw⟩
        | 1, _ =>
          have e75x := hs.e75 (haft 0 (by decide))
          subst e75x
          have q := (CC.out w' hw.from1).1
          exact i_val rfl (.slice (some ⟨p6, 0, none⟩) n1 e1) w' (by rfl) (by go_simp) ⟨(.pointer (some ⟨b6, 6, none⟩)), (.slice (some ⟨p6, 0, none⟩) n1 e1), v77, v78, v79, v80, v81, v82, v83, v84, v8, v9, rfl, { hs with e76 := fun _ => rfl }, hw⟩
        | 2, _ =>
          exact i_val rfl (.int .i64 (k : Nat)) w' (by rfl) (by go_simp) ⟨v75, v76, (.int .i64 (k : Nat)), v78, v79, v80, v81, v82, v83, v84, v8, v9, rfl, { hs with e77 := fun _ => rfl }, hw⟩
        | 3, _ =>
          have e76x := hs.e76 (haft 1 (by decide))
          subst e76x
          have e77x := hs.e77 (haft 2 (by decide))
          subst e77x
          exact i_val rfl (.pointer (some ⟨p6, k * 21, none⟩)) w' (by rfl) (by go_simp) ⟨v75, (.slice (some ⟨p6, 0, none⟩) n1 e1), (.int .i64 (k : Nat)), (.pointer (some ⟨p6, k * 21, none⟩)), v79, v80, v81, v82, v83, v84, v8, v9, rfl, { hs with e78 := fun _ => rfl }, hw⟩
        | 4, _ =>
          have e78x := hs.e78 (haft 3 (by decide))
          subst e78x
          exact i_val rfl (poV (coldP y)) w' (by rfl) (run_loadRange 50 _ rfl p6 (k * 21) rfl (poA (coldP y)) _ (R6.out w' (BE.out w' hw.from1)) Try.underlying50 rfl (po_info (coldP y))) ⟨v75, v76, v77, (.pointer (some ⟨p6, k * 21, none⟩)), (poV (coldP y)), v80, v81, v82, v83, v84, v8, v9, rfl, { hs with e79 := fun _ => rfl }, hw⟩
        | 5, _ =>
          exact i_val rfl (.pointer (some ⟨b5, 6, none⟩)) w' (by rfl) (by go_simp) ⟨v75, v76, v77, v78, v79, (.pointer (some ⟨b5, 6, none⟩)), v81, v82, v83, v84, v8, v9, rfl, { hs with e80 := fun _ => rfl }, hw⟩
        | 6, _ =>
          have e80x := hs.e80 (haft 5 (by decide))
          subst e80x
          have q := (CC.out w' hw.from1).2
          exact i_val rfl (.slice (some ⟨p5, 0, none⟩) n1 c1) w' (by rfl) (by go_simp) ⟨v75, v76, v77, v78, v79, (.pointer (some ⟨b5, 6, none⟩)), (.slice (some ⟨p5, 0, none⟩) n1 c1), v82, v83, v84, v8, v9, rfl, { hs with e81 := fun _ => rfl }, hw⟩
        | 7, _ =>
          exact i_val rfl (.int .i64 (k : Nat)) w' (by rfl) (by go_simp) ⟨v75, v76, v77, v78, v79, v80, v81, (.int .i64 (k : Nat)), v83, v84, v8, v9, rfl, { hs with e82 := fun _ => rfl }, hw⟩
        | 8, _ =>
          have e81x := hs.e81 (haft 6 (by decide))
          subst e81x
          have e82x := hs.e82 (haft 7 (by decide))
          subst e82x
          exact i_val rfl (.pointer (some ⟨p5, k * 21, none⟩)) w' (by rfl) (by go_simp) ⟨v75, v76, v77, v78, v79, v80, (.slice (some ⟨p5, 0, none⟩) n1 c1), (.int .i64 (k : Nat)), (.pointer (some ⟨p5, k * 21, none⟩)), v84, v8, v9, rfl, { hs with e83 := fun _ => rfl }, hw⟩
        | 9, _ =>
          have e83x := hs.e83 (haft 8 (by decide))
          subst e83x
          exact i_val rfl (poV y) w' (by rfl) (run_loadRange 50 _ rfl p5 (k * 21) rfl (poA y) _ (R5.out w' (BE.out w' hw.from1)) Try.underlying50 rfl (po_info y)) ⟨v75, v76, v77, v78, v79, v80, v81, v82, (.pointer (some ⟨p5, k * 21, none⟩)), (poV y), v8, v9, rfl, { hs with e84 := fun _ => rfl }, hw⟩
        | 10, _ => exact i_val rfl (.pointer (some ⟨w'.heap.size, 0, none⟩)) (w'.alloc (.cells nil21 50)) (by rfl) (by go_simp) ⟨v75, v76, v77, v78, v79, v80, v81, v82, v83, v84, (.pointer (some ⟨w'.heap.size, 0, none⟩)), v9, rfl, { hs with }, hw.alloc7 (by rfl) hL⟩
        | 11, _ => exact i_val rfl (.pointer (some ⟨w'.heap.size, 0, none⟩)) (w'.alloc (.cells nil21 50)) (by rfl) (by go_simp) ⟨v75, v76, v77, v78, v79, v80, v81, v82, v83, v84, v8, (.pointer (some ⟨w'.heap.size, 0, none⟩)), rfl, { hs with }, hw.alloc8 (by rfl) hL⟩
        | 12, _ =>
          have e79x := hs.e79 (haft 4 (by decide))
          subst e79x
          have ha := haft 10 (by decide)
          obtain ⟨h8, cs, rfl, hc, hz, hk, -⟩ := hw.p7 ha
          exact i_wp rfl (by rfl) (wp_store_row 50 _ _ rfl h8 (poA (coldP y)) rfl rfl 50 cs hk (po_info _) hz (po_all _) ⟨v75, v76, v77, v78, _, v80, v81, v82, v83, v84, _, v9, rfl, { hs with }, hw.store7 ha (by rfl) hk hc⟩)
        | 13, _ =>
          have e84x := hs.e84 (haft 9 (by decide))
          subst e84x
          have ha := haft 11 (by decide)
          obtain ⟨h9, cs, rfl, hc, hz, hk, -⟩ := hw.p8 ha
          exact i_wp rfl (by rfl) (wp_store_row 50 _ _ rfl h9 (poA y) rfl rfl 50 cs hk (po_info _) hz (po_all _) ⟨v75, v76, v77, v78, v79, v80, v81, v82, v83, _, v8, _, rfl, { hs with }, hw.store8 ha (by rfl) hk hc⟩)
        | k + 14, h =>
          exfalso
          have h2 : k + 14 < 14 := h
          omega
      intro Lx ac w9 hI hall
      obtain ⟨v75, v76, v77, v78, v79, v80, v81, v82, v83, v84, v8, v9, rfl, hs, hw⟩ := hI
      have e75y := hs.e75 (hall 0 (by decide))
      subst e75y
      have e76y := hs.e76 (hall 1 (by decide))
      subst e76y
      have e77y := hs.e77 (hall 2 (by decide))
      subst e77y
      have e78y := hs.e78 (hall 3 (by decide))
      subst e78y
      have e79y := hs.e79 (hall 4 (by decide))
      subst e79y
      have e80y := hs.e80 (hall 5 (by decide))
      subst e80y
      have e81y := hs.e81 (hall 6 (by decide))
      subst e81y
      have e82y := hs.e82 (hall 7 (by decide))
      subst e82y
      have e83y := hs.e83 (hall 8 (by decide))
      subst e83y
      have e84y := hs.e84 (hall 9 (by decide))
      subst e84y
      obtain ⟨h8, cs8, rfl, -, -, hk8, he8⟩ := hw.p7 (hall 10 (by decide))
      obtain ⟨h9, cs9, rfl, -, -, hk9, he9⟩ := hw.p8 (hall 11 (by decide))
      rw [he8 (hall 12 (by decide))] at hk8
      rw [he9 (hall 13 (by decide))] at hk9
      have G8 := Lib.hid hk8
      have G9 := Lib.hid hk9
      have F9 := Lib.hid hw.from1
      clear hs hall hw hk8 hk9 he8 he9
      obtain ⟨u, hu⟩ : ∃ u, u = y.p7 := ⟨_, rfl⟩
      obtain ⟨ad, had⟩ : ∃ ad, ad = y.p6 := ⟨_, rfl⟩
      have HON := Lib.hid (show onP y = (u && ad) by rw [hu, had]; rfl)
      have BC := Lib.hid (show Try.prog.built 50 [(0, .agg #[.int .u16 y.p0, .int .i64 y.p1, .bool y.p2]), (1, .int .u32 y.p3), (2, .int .i64 y.p4), (3, .bool y.p5), (4, .bool ad), (5, .bool u)] = some (poA (coldP y)) by rw [hu, had]; exact built_cold y)
      obtain ⟨h10, hh10⟩ : ∃ h, h = w9.heap.size := ⟨_, rfl⟩
      obtain ⟨w11, hw11⟩ : ∃ w', w' = (w9.alloc (.cells nil21 50)).setRow h10 (poA (coldP y)) := ⟨_, rfl⟩
      have d9 : Below w9.heap.size w9 w11 := by rw [hw11, hh10]; exact below_setRow ((Below.refl _ _).alloc (Nat.le_refl _) _) (Nat.le_refl _) _
      have g8 : Blk w11 h8 (poA (coldP y)) 50 := G8.out.below d9 G8.out.lt
      have g9 : Blk w11 h9 (poA y) 50 := G9.out.below d9 G9.out.lt
      have g10 : Blk w11 h10 (poA (coldP y)) 50 := by rw [hw11, hh10]; exact (Blk.new _ _ _).row _
      have K8 := Lib.hid (show ∀ W, Below w11.heap.size w11 W → Blk W h8 (poA (coldP y)) 50 from fun W hW => g8.below hW g8.lt)
      have K9 := Lib.hid (show ∀ W, Below w11.heap.size w11 W → Blk W h9 (poA y) 50 from fun W hW => g9.below hW g9.lt)
      have K10 := Lib.hid (show ∀ W, Below w11.heap.size w11 W → Blk W h10 (poA (coldP y)) 50 from fun W hW => g10.below hW g10.lt)
      have C9 := Lib.hid (show ∀ W, Below w11.heap.size w11 W → W.cell? ⟨h9, 6, none⟩ = some (.bool ad) ∧ W.cell? ⟨h9, 7, none⟩ = some (.bool u) from fun W hW => by rw [hu, had]; exact ⟨(g9.below hW g9.lt).cell 6, (g9.below hW g9.lt).cell 7⟩)
      have C94 := Lib.hid (show ∀ W, Below w11.heap.size w11 W → W.cell? ⟨h9, 4, none⟩ = some (.int .i64 y.p4) from fun W hW => (g9.below hW g9.lt).cell 4)
      have E11 := Lib.hid (show Below wB.heap.size wB w11 from (BE.out w9 F9.out).trans (d9.mono (BE.out w9 F9.out).size))
      obtain ⟨I, hi16⟩ : ∃ I, I = idP y (bits BinOp.and IntKind.i64 vid 4095) := ⟨_, rfl⟩
      have HI16 := Lib.hid hi16.symm
      have EI := Lib.hid (show IntKind.u16.wrap (IntKind.u64.wrap (IntKind.u64.wrap (IntKind.u64.wrap y.p4 * 4096) + IntKind.u64.wrap (bits BinOp.and IntKind.i64 vid 4095))) = I by rw [hi16]; exact id_wide _ _)
      have c0 : w9.cell? ⟨h9, 0, none⟩ = some (.int .u16 y.p0) := G9.out.cell 0
      have c1' : w9.cell? ⟨h9, 1, none⟩ = some (.int .i64 y.p1) := G9.out.cell 1
      have c2' : w9.cell? ⟨h9, 2, none⟩ = some (.bool y.p2) := G9.out.cell 2
      have c3' : w9.cell? ⟨h9, 3, none⟩ = some (.int .u32 y.p3) := G9.out.cell 3
      have c4 : w9.cell? ⟨h9, 4, none⟩ = some (.int .i64 y.p4) := G9.out.cell 4
      have c5 : w9.cell? ⟨h9, 5, none⟩ = some (.bool y.p5) := G9.out.cell 5
      have c6 : w9.cell? ⟨h9, 6, none⟩ = some (.bool ad) := by rw [had]; exact G9.out.cell 6
      have c7 : w9.cell? ⟨h9, 7, none⟩ = some (.bool u) := by rw [hu]; exact G9.out.cell 7
      have H10 := Lib.hid hh10
      have H11 := Lib.hid hw11
      clear hu had hh10 hw11 d9 g8 g9 g10 hi16
      go_upto_region 11 with fail
      refine wp_region_lit ?_
      refine wpList_val (.pointer (some ⟨h9, 0, none⟩)) (by rfl) (by go_simp) ?_
      (try simp only [Act.put, List.getElem_toArray, List.getElem_cons_succ, List.getElem_cons_zero, List.setIfInBounds_toArray, List.set_cons_zero, List.set_cons_succ])
      refine wpList_val (.agg #[.int .u16 y.p0, .int .i64 y.p1, .bool y.p2]) (by rfl) (by go_simp) ?_
      (try simp only [Act.put, List.getElem_toArray, List.getElem_cons_succ, List.getElem_cons_zero, List.setIfInBounds_toArray, List.set_cons_zero, List.set_cons_succ])
      refine wpList_val (.pointer (some ⟨h9, 3, none⟩)) (by rfl) (by go_simp) ?_
      (try simp only [Act.put, List.getElem_toArray, List.getElem_cons_succ, List.getElem_cons_zero, List.setIfInBounds_toArray, List.set_cons_zero, List.set_cons_succ])
      refine wpList_val (.int .u32 y.p3) (by rfl) (by go_simp) ?_
      (try simp only [Act.put, List.getElem_toArray, List.getElem_cons_succ, List.getElem_cons_zero, List.setIfInBounds_toArray, List.set_cons_zero, List.set_cons_succ])
      refine wpList_val (.pointer (some ⟨h9, 4, none⟩)) (by rfl) (by go_simp) ?_
      (try simp only [Act.put, List.getElem_toArray, List.getElem_cons_succ, List.getElem_cons_zero, List.setIfInBounds_toArray, List.set_cons_zero, List.set_cons_succ])
      refine wpList_val (.int .i64 y.p4) (by rfl) (by go_simp) ?_
      (try simp only [Act.put, List.getElem_toArray, List.getElem_cons_succ, List.getElem_cons_zero, List.setIfInBounds_toArray, List.set_cons_zero, List.set_cons_succ])
      refine wpList_val (.pointer (some ⟨h9, 5, none⟩)) (by rfl) (by go_simp) ?_
      (try simp only [Act.put, List.getElem_toArray, List.getElem_cons_succ, List.getElem_cons_zero, List.setIfInBounds_toArray, List.set_cons_zero, List.set_cons_succ])
      refine wpList_val (.bool y.p5) (by rfl) (by go_simp) ?_
      (try simp only [Act.put, List.getElem_toArray, List.getElem_cons_succ, List.getElem_cons_zero, List.setIfInBounds_toArray, List.set_cons_zero, List.set_cons_succ])
      refine wpList_val (.pointer (some ⟨h9, 6, none⟩)) (by rfl) (by go_simp) ?_
      (try simp only [Act.put, List.getElem_toArray, List.getElem_cons_succ, List.getElem_cons_zero, List.setIfInBounds_toArray, List.set_cons_zero, List.set_cons_succ])
      refine wpList_val (.bool ad) (by rfl) (by go_simp) ?_
      (try simp only [Act.put, List.getElem_toArray, List.getElem_cons_succ, List.getElem_cons_zero, List.setIfInBounds_toArray, List.set_cons_zero, List.set_cons_succ])
      refine wpList_val (.pointer (some ⟨h9, 7, none⟩)) (by rfl) (by go_simp) ?_
      (try simp only [Act.put, List.getElem_toArray, List.getElem_cons_succ, List.getElem_cons_zero, List.setIfInBounds_toArray, List.set_cons_zero, List.set_cons_succ])
      refine wpList_val (.bool u) (by rfl) (by go_simp) ?_
      (try simp only [Act.put, List.getElem_toArray, List.getElem_cons_succ, List.getElem_cons_zero, List.setIfInBounds_toArray, List.set_cons_zero, List.set_cons_succ])
      refine wpList_val (poV (coldP y)) (by rfl) (run_build_of 50 [(0, .tmp 86), (1, .tmp 88), (2, .tmp 90), (3, .tmp 92), (4, .tmp 94), (5, .tmp 96)] rfl _ _ rfl BC.out) ?_
      (try simp only [Act.put, List.getElem_toArray, List.getElem_cons_succ, List.getElem_cons_zero, List.setIfInBounds_toArray, List.set_cons_zero, List.set_cons_succ])
      refine wpList_alloc 50 rfl (by rfl) nil21 z50 ?_
      (try simp only [Act.put, List.getElem_toArray, List.getElem_cons_succ, List.getElem_cons_zero, List.setIfInBounds_toArray, List.set_cons_zero, List.set_cons_succ])
      rw [← H10.out]
      refine wpList_store_row rfl 50 _ _ rfl h10 (poA (coldP y)) rfl rfl 50 nil21 (by rw [H10.out]; exact Blk.new _ _ _) (po_info _) (by rfl) (po_all _) ?_
      (try simp only [Act.put, List.getElem_toArray, List.getElem_cons_succ, List.getElem_cons_zero, List.setIfInBounds_toArray, List.set_cons_zero, List.set_cons_succ])
      refine wpList_nil ?_
      rw [← H11.out]
      clear c0 c1' c2' c3' c4 c5 c6 c7 cq
      go_upto_region 12 with fail
      cases u
      · refine wp_region_quiet (C := Below w11.heap.size w11) (by kernel_rfl) (by kernel_rfl) (Below.refl _ _).drew ?_
        (refine q_val (v := poV (coldP y)) (by rfl) (fun w hC => run_loadVar_of 50 _ rfl h8 rfl 50 (poA (coldP y)) _ (K8.out w hC) Try.underlying50 rfl (po_info (coldP y))) ?_; (try simp only [Act.put, List.getElem_toArray, List.getElem_cons_succ, List.getElem_cons_zero, List.setIfInBounds_toArray, List.set_cons_zero, List.set_cons_succ]))
        (refine q_val (v := poV (coldP y)) (by rfl) (fun w hC => run_loadVar_of 50 _ rfl h10 rfl 50 (poA (coldP y)) _ (K10.out w hC) Try.underlying50 rfl (po_info (coldP y))) ?_; (try simp only [Act.put, List.getElem_toArray, List.getElem_cons_succ, List.getElem_cons_zero, List.setIfInBounds_toArray, List.set_cons_zero, List.set_cons_succ]))
        (refine q_val (v := .bool false) (by rfl) (fun w hC => by have q := EQ.out; go_simp) ?_; (try simp only [Act.put, List.getElem_toArray, List.getElem_cons_succ, List.getElem_cons_zero, List.setIfInBounds_toArray, List.set_cons_zero, List.set_cons_succ]))
        (refine q_val (v := .bool false) (by rfl) ?_ ?_; (· (intro w hC; go_simp; try with_reducible rfl)); (try simp only [Act.put, List.getElem_toArray, List.getElem_cons_succ, List.getElem_cons_zero, List.setIfInBounds_toArray, List.set_cons_zero, List.set_cons_succ]))
        (refine q_val (v := poV y) (by rfl) (fun w hC => run_loadVar_of 50 _ rfl h9 rfl 50 (poA y) _ (K9.out w hC) Try.underlying50 rfl (po_info y)) ?_; (try simp only [Act.put, List.getElem_toArray, List.getElem_cons_succ, List.getElem_cons_zero, List.setIfInBounds_toArray, List.set_cons_zero, List.set_cons_succ]))
        (refine q_call (v := .bool false) 8 #[poV y] (by rfl) (fun w hC => by go_simp) (fun w hC => calls_in (by have h := on_any y w; rwa [HON.out] at h) (fun w' hb => hC.trans (hb.mono hC.size))) ?_; (try simp only [Act.put, List.getElem_toArray, List.getElem_cons_succ, List.getElem_cons_zero, List.setIfInBounds_toArray, List.set_cons_zero, List.set_cons_succ]))
        (refine q_val (v := .pointer (some ⟨h9, 7, none⟩)) (by rfl) ?_ ?_; (· (intro w hC; go_simp; try with_reducible rfl)); (try simp only [Act.put, List.getElem_toArray, List.getElem_cons_succ, List.getElem_cons_zero, List.setIfInBounds_toArray, List.set_cons_zero, List.set_cons_succ]))
        (refine q_val (v := .bool false) (by rfl) ?_ ?_; (· (intro w hC; have q := (C9.out w hC).2; go_simp; try with_reducible rfl)); (try simp only [Act.put, List.getElem_toArray, List.getElem_cons_succ, List.getElem_cons_zero, List.setIfInBounds_toArray, List.set_cons_zero, List.set_cons_succ]))
        (refine q_val (v := .bool false) (by rfl) ?_ ?_; (· (intro w hC; go_simp; try with_reducible rfl)); (try simp only [Act.put, List.getElem_toArray, List.getElem_cons_succ, List.getElem_cons_zero, List.setIfInBounds_toArray, List.set_cons_zero, List.set_cons_succ]))
        (refine q_skip (by rfl) ?_; (try simp only [Act.put, List.getElem_toArray, List.getElem_cons_succ, List.getElem_cons_zero, List.setIfInBounds_toArray, List.set_cons_zero, List.set_cons_succ]))
        (refine q_skip (by rfl) ?_; (try simp only [Act.put, List.getElem_toArray, List.getElem_cons_succ, List.getElem_cons_zero, List.setIfInBounds_toArray, List.set_cons_zero, List.set_cons_succ]))
        (refine q_val (v := .bool false) (by rfl) ?_ ?_; (· (intro w hC; go_simp; try with_reducible rfl)); (try simp only [Act.put, List.getElem_toArray, List.getElem_cons_succ, List.getElem_cons_zero, List.setIfInBounds_toArray, List.set_cons_zero, List.set_cons_succ]))
        (refine q_val (v := .bool false) (by rfl) (fun w hC => by go_simp) ?_; (try simp only [Act.put, List.getElem_toArray, List.getElem_cons_succ, List.getElem_cons_zero, List.setIfInBounds_toArray, List.set_cons_zero, List.set_cons_succ]))
        (refine q_val (v := .bool false) (by rfl) ?_ ?_; (· (intro w hC; go_simp; try with_reducible rfl)); (try simp only [Act.put, List.getElem_toArray, List.getElem_cons_succ, List.getElem_cons_zero, List.setIfInBounds_toArray, List.set_cons_zero, List.set_cons_succ]))
        (refine q_val (v := .bool false) (by rfl) ?_ ?_; (· (intro w hC; go_simp; try with_reducible rfl)); (try simp only [Act.put, List.getElem_toArray, List.getElem_cons_succ, List.getElem_cons_zero, List.setIfInBounds_toArray, List.set_cons_zero, List.set_cons_succ]))
        (refine q_val (v := poV y) (by rfl) (fun w hC => run_loadVar_of 50 _ rfl h9 rfl 50 (poA y) _ (K9.out w hC) Try.underlying50 rfl (po_info y)) ?_; (try simp only [Act.put, List.getElem_toArray, List.getElem_cons_succ, List.getElem_cons_zero, List.setIfInBounds_toArray, List.set_cons_zero, List.set_cons_succ]))
        (refine q_val (v := .int .i64 vid) (by rfl) ?_ ?_; (· (intro w hC; go_simp; try with_reducible rfl)); (try simp only [Act.put, List.getElem_toArray, List.getElem_cons_succ, List.getElem_cons_zero, List.setIfInBounds_toArray, List.set_cons_zero, List.set_cons_succ]))
        (refine q_val (v := .int .i64 (bits BinOp.and IntKind.i64 vid 4095)) (by rfl) ?_ ?_; (· (intro w hC; go_simp; try with_reducible rfl)); (try simp only [Act.put, List.getElem_toArray, List.getElem_cons_succ, List.getElem_cons_zero, List.setIfInBounds_toArray, List.set_cons_zero, List.set_cons_succ]))
        (refine q_call (v := .int .u16 I) 9 #[poV y, .int .i64 (bits BinOp.and IntKind.i64 vid 4095)] (by rfl) (fun w hC => by go_simp) (fun w hC => calls_in (by have h := id_any y (bits BinOp.and IntKind.i64 vid 4095) w; rwa [HI16.out] at h) (fun w' hb => hC.trans (hb.mono hC.size))) ?_; (try simp only [Act.put, List.getElem_toArray, List.getElem_cons_succ, List.getElem_cons_zero, List.setIfInBounds_toArray, List.set_cons_zero, List.set_cons_succ]))
        (refine q_val (v := .pointer (some ⟨h9, 4, none⟩)) (by rfl) ?_ ?_; (· (intro w hC; go_simp; try with_reducible rfl)); (try simp only [Act.put, List.getElem_toArray, List.getElem_cons_succ, List.getElem_cons_zero, List.setIfInBounds_toArray, List.set_cons_zero, List.set_cons_succ]))
        (refine q_val (v := .int .i64 y.p4) (by rfl) ?_ ?_; (· (intro w hC; have q := C94.out w hC; go_simp; try with_reducible rfl)); (try simp only [Act.put, List.getElem_toArray, List.getElem_cons_succ, List.getElem_cons_zero, List.setIfInBounds_toArray, List.set_cons_zero, List.set_cons_succ]))
        (refine q_val (v := .int .u64 (IntKind.u64.wrap y.p4)) (by rfl) ?_ ?_; (· (intro w hC; go_simp; try with_reducible rfl)); (try simp only [Act.put, List.getElem_toArray, List.getElem_cons_succ, List.getElem_cons_zero, List.setIfInBounds_toArray, List.set_cons_zero, List.set_cons_succ]))
        (refine q_val (v := .int .u64 (IntKind.u64.wrap (IntKind.u64.wrap y.p4 * 4096))) (by rfl) ?_ ?_; (· (intro w hC; go_simp; try with_reducible rfl)); (try simp only [Act.put, List.getElem_toArray, List.getElem_cons_succ, List.getElem_cons_zero, List.setIfInBounds_toArray, List.set_cons_zero, List.set_cons_succ]))
        (refine q_val (v := .int .i64 vid) (by rfl) ?_ ?_; (· (intro w hC; go_simp; try with_reducible rfl)); (try simp only [Act.put, List.getElem_toArray, List.getElem_cons_succ, List.getElem_cons_zero, List.setIfInBounds_toArray, List.set_cons_zero, List.set_cons_succ]))
        (refine q_val (v := .int .i64 (bits BinOp.and IntKind.i64 vid 4095)) (by rfl) ?_ ?_; (· (intro w hC; go_simp; try with_reducible rfl)); (try simp only [Act.put, List.getElem_toArray, List.getElem_cons_succ, List.getElem_cons_zero, List.setIfInBounds_toArray, List.set_cons_zero, List.set_cons_succ]))
        (refine q_val (v := .int .u64 (IntKind.u64.wrap (bits BinOp.and IntKind.i64 vid 4095))) (by rfl) ?_ ?_; (· (intro w hC; go_simp; try with_reducible rfl)); (try simp only [Act.put, List.getElem_toArray, List.getElem_cons_succ, List.getElem_cons_zero, List.setIfInBounds_toArray, List.set_cons_zero, List.set_cons_succ]))
        (refine q_val (v := .int .u64 (IntKind.u64.wrap (IntKind.u64.wrap (IntKind.u64.wrap y.p4 * 4096) + IntKind.u64.wrap (bits BinOp.and IntKind.i64 vid 4095)))) (by rfl) ?_ ?_; (· (intro w hC; go_simp; try with_reducible rfl)); (try simp only [Act.put, List.getElem_toArray, List.getElem_cons_succ, List.getElem_cons_zero, List.setIfInBounds_toArray, List.set_cons_zero, List.set_cons_succ]))
        (refine q_val (v := .int .u16 I) (by rfl) (fun w hC => by go_simp; first | done | exact EI.out | (rw [EI.out])) ?_; (try simp only [Act.put, List.getElem_toArray, List.getElem_cons_succ, List.getElem_cons_zero, List.setIfInBounds_toArray, List.set_cons_zero, List.set_cons_succ]))
        (refine q_val (v := .bool false) (by rfl) (fun w hC => by go_simp) ?_; (try simp only [Act.put, List.getElem_toArray, List.getElem_cons_succ, List.getElem_cons_zero, List.setIfInBounds_toArray, List.set_cons_zero, List.set_cons_succ]))
        (refine q_val (v := .bool false) (by rfl) ?_ ?_; (· (intro w hC; go_simp; try with_reducible rfl)); (try simp only [Act.put, List.getElem_toArray, List.getElem_cons_succ, List.getElem_cons_zero, List.setIfInBounds_toArray, List.set_cons_zero, List.set_cons_succ]))
        refine wpQuiet_nil ?_
        intro w5 hC5
        have K5 := Lib.hid (show Below wB.heap.size wB w5 from E11.out.trans (hC5.mono E11.out.size))
        clear hC5
        go_wp2_with fail
        go_roundw
        case rel => exact ⟨k + 1, by omega, by go_num, K5.out⟩
        case measure => simp [intOf]; omega
      · refine wp_region_quiet (C := Below w11.heap.size w11) (by kernel_rfl) (by kernel_rfl) (Below.refl _ _).drew ?_
        (refine q_val (v := poV (coldP y)) (by rfl) (fun w hC => run_loadVar_of 50 _ rfl h8 rfl 50 (poA (coldP y)) _ (K8.out w hC) Try.underlying50 rfl (po_info (coldP y))) ?_; (try simp only [Act.put, List.getElem_toArray, List.getElem_cons_succ, List.getElem_cons_zero, List.setIfInBounds_toArray, List.set_cons_zero, List.set_cons_succ]))
        (refine q_val (v := poV (coldP y)) (by rfl) (fun w hC => run_loadVar_of 50 _ rfl h10 rfl 50 (poA (coldP y)) _ (K10.out w hC) Try.underlying50 rfl (po_info (coldP y))) ?_; (try simp only [Act.put, List.getElem_toArray, List.getElem_cons_succ, List.getElem_cons_zero, List.setIfInBounds_toArray, List.set_cons_zero, List.set_cons_succ]))
        (refine q_val (v := .bool false) (by rfl) (fun w hC => by have q := EQ.out; go_simp) ?_; (try simp only [Act.put, List.getElem_toArray, List.getElem_cons_succ, List.getElem_cons_zero, List.setIfInBounds_toArray, List.set_cons_zero, List.set_cons_succ]))
        (refine q_val (v := .bool false) (by rfl) ?_ ?_; (· (intro w hC; go_simp; try with_reducible rfl)); (try simp only [Act.put, List.getElem_toArray, List.getElem_cons_succ, List.getElem_cons_zero, List.setIfInBounds_toArray, List.set_cons_zero, List.set_cons_succ]))
        (refine q_val (v := poV y) (by rfl) (fun w hC => run_loadVar_of 50 _ rfl h9 rfl 50 (poA y) _ (K9.out w hC) Try.underlying50 rfl (po_info y)) ?_; (try simp only [Act.put, List.getElem_toArray, List.getElem_cons_succ, List.getElem_cons_zero, List.setIfInBounds_toArray, List.set_cons_zero, List.set_cons_succ]))
        (refine q_call (v := .bool ad) 8 #[poV y] (by rfl) (fun w hC => by go_simp) (fun w hC => calls_in (by have h := on_any y w; rwa [HON.out] at h) (fun w' hb => hC.trans (hb.mono hC.size))) ?_; (try simp only [Act.put, List.getElem_toArray, List.getElem_cons_succ, List.getElem_cons_zero, List.setIfInBounds_toArray, List.set_cons_zero, List.set_cons_succ]))
        (refine q_val (v := .pointer (some ⟨h9, 7, none⟩)) (by rfl) ?_ ?_; (· (intro w hC; go_simp; try with_reducible rfl)); (try simp only [Act.put, List.getElem_toArray, List.getElem_cons_succ, List.getElem_cons_zero, List.setIfInBounds_toArray, List.set_cons_zero, List.set_cons_succ]))
        (refine q_val (v := .bool true) (by rfl) ?_ ?_; (· (intro w hC; have q := (C9.out w hC).2; go_simp; try with_reducible rfl)); (try simp only [Act.put, List.getElem_toArray, List.getElem_cons_succ, List.getElem_cons_zero, List.setIfInBounds_toArray, List.set_cons_zero, List.set_cons_succ]))
        (refine q_val (v := .bool true) (by rfl) ?_ ?_; (· (intro w hC; go_simp; try with_reducible rfl)); (try simp only [Act.put, List.getElem_toArray, List.getElem_cons_succ, List.getElem_cons_zero, List.setIfInBounds_toArray, List.set_cons_zero, List.set_cons_succ]))
        (refine q_val (v := .pointer (some ⟨h9, 6, none⟩)) (by rfl) ?_ ?_; (· (intro w hC; go_simp; try with_reducible rfl)); (try simp only [Act.put, List.getElem_toArray, List.getElem_cons_succ, List.getElem_cons_zero, List.setIfInBounds_toArray, List.set_cons_zero, List.set_cons_succ]))
        (refine q_val (v := .bool ad) (by rfl) ?_ ?_; (· (intro w hC; have q := (C9.out w hC).1; go_simp; try with_reducible rfl)); (try simp only [Act.put, List.getElem_toArray, List.getElem_cons_succ, List.getElem_cons_zero, List.setIfInBounds_toArray, List.set_cons_zero, List.set_cons_succ]))
        (refine q_val (v := .bool ad) (by rfl) ?_ ?_; (· (intro w hC; go_simp; try with_reducible rfl)); (try simp only [Act.put, List.getElem_toArray, List.getElem_cons_succ, List.getElem_cons_zero, List.setIfInBounds_toArray, List.set_cons_zero, List.set_cons_succ]))
        (refine q_val (v := .bool false) (by rfl) (fun w hC => by go_simp) ?_; (try simp only [Act.put, List.getElem_toArray, List.getElem_cons_succ, List.getElem_cons_zero, List.setIfInBounds_toArray, List.set_cons_zero, List.set_cons_succ]))
        (refine q_val (v := .bool false) (by rfl) ?_ ?_; (· (intro w hC; go_simp; try with_reducible rfl)); (try simp only [Act.put, List.getElem_toArray, List.getElem_cons_succ, List.getElem_cons_zero, List.setIfInBounds_toArray, List.set_cons_zero, List.set_cons_succ]))
        (refine q_val (v := .bool false) (by rfl) ?_ ?_; (· (intro w hC; go_simp; try with_reducible rfl)); (try simp only [Act.put, List.getElem_toArray, List.getElem_cons_succ, List.getElem_cons_zero, List.setIfInBounds_toArray, List.set_cons_zero, List.set_cons_succ]))
        (refine q_val (v := poV y) (by rfl) (fun w hC => run_loadVar_of 50 _ rfl h9 rfl 50 (poA y) _ (K9.out w hC) Try.underlying50 rfl (po_info y)) ?_; (try simp only [Act.put, List.getElem_toArray, List.getElem_cons_succ, List.getElem_cons_zero, List.setIfInBounds_toArray, List.set_cons_zero, List.set_cons_succ]))
        (refine q_val (v := .int .i64 vid) (by rfl) ?_ ?_; (· (intro w hC; go_simp; try with_reducible rfl)); (try simp only [Act.put, List.getElem_toArray, List.getElem_cons_succ, List.getElem_cons_zero, List.setIfInBounds_toArray, List.set_cons_zero, List.set_cons_succ]))
        (refine q_val (v := .int .i64 (bits BinOp.and IntKind.i64 vid 4095)) (by rfl) ?_ ?_; (· (intro w hC; go_simp; try with_reducible rfl)); (try simp only [Act.put, List.getElem_toArray, List.getElem_cons_succ, List.getElem_cons_zero, List.setIfInBounds_toArray, List.set_cons_zero, List.set_cons_succ]))
        (refine q_call (v := .int .u16 I) 9 #[poV y, .int .i64 (bits BinOp.and IntKind.i64 vid 4095)] (by rfl) (fun w hC => by go_simp) (fun w hC => calls_in (by have h := id_any y (bits BinOp.and IntKind.i64 vid 4095) w; rwa [HI16.out] at h) (fun w' hb => hC.trans (hb.mono hC.size))) ?_; (try simp only [Act.put, List.getElem_toArray, List.getElem_cons_succ, List.getElem_cons_zero, List.setIfInBounds_toArray, List.set_cons_zero, List.set_cons_succ]))
        (refine q_val (v := .pointer (some ⟨h9, 4, none⟩)) (by rfl) ?_ ?_; (· (intro w hC; go_simp; try with_reducible rfl)); (try simp only [Act.put, List.getElem_toArray, List.getElem_cons_succ, List.getElem_cons_zero, List.setIfInBounds_toArray, List.set_cons_zero, List.set_cons_succ]))
        (refine q_val (v := .int .i64 y.p4) (by rfl) ?_ ?_; (· (intro w hC; have q := C94.out w hC; go_simp; try with_reducible rfl)); (try simp only [Act.put, List.getElem_toArray, List.getElem_cons_succ, List.getElem_cons_zero, List.setIfInBounds_toArray, List.set_cons_zero, List.set_cons_succ]))
        (refine q_val (v := .int .u64 (IntKind.u64.wrap y.p4)) (by rfl) ?_ ?_; (· (intro w hC; go_simp; try with_reducible rfl)); (try simp only [Act.put, List.getElem_toArray, List.getElem_cons_succ, List.getElem_cons_zero, List.setIfInBounds_toArray, List.set_cons_zero, List.set_cons_succ]))
        (refine q_val (v := .int .u64 (IntKind.u64.wrap (IntKind.u64.wrap y.p4 * 4096))) (by rfl) ?_ ?_; (· (intro w hC; go_simp; try with_reducible rfl)); (try simp only [Act.put, List.getElem_toArray, List.getElem_cons_succ, List.getElem_cons_zero, List.setIfInBounds_toArray, List.set_cons_zero, List.set_cons_succ]))
        (refine q_val (v := .int .i64 vid) (by rfl) ?_ ?_; (· (intro w hC; go_simp; try with_reducible rfl)); (try simp only [Act.put, List.getElem_toArray, List.getElem_cons_succ, List.getElem_cons_zero, List.setIfInBounds_toArray, List.set_cons_zero, List.set_cons_succ]))
        (refine q_val (v := .int .i64 (bits BinOp.and IntKind.i64 vid 4095)) (by rfl) ?_ ?_; (· (intro w hC; go_simp; try with_reducible rfl)); (try simp only [Act.put, List.getElem_toArray, List.getElem_cons_succ, List.getElem_cons_zero, List.setIfInBounds_toArray, List.set_cons_zero, List.set_cons_succ]))
        (refine q_val (v := .int .u64 (IntKind.u64.wrap (bits BinOp.and IntKind.i64 vid 4095))) (by rfl) ?_ ?_; (· (intro w hC; go_simp; try with_reducible rfl)); (try simp only [Act.put, List.getElem_toArray, List.getElem_cons_succ, List.getElem_cons_zero, List.setIfInBounds_toArray, List.set_cons_zero, List.set_cons_succ]))
        (refine q_val (v := .int .u64 (IntKind.u64.wrap (IntKind.u64.wrap (IntKind.u64.wrap y.p4 * 4096) + IntKind.u64.wrap (bits BinOp.and IntKind.i64 vid 4095)))) (by rfl) ?_ ?_; (· (intro w hC; go_simp; try with_reducible rfl)); (try simp only [Act.put, List.getElem_toArray, List.getElem_cons_succ, List.getElem_cons_zero, List.setIfInBounds_toArray, List.set_cons_zero, List.set_cons_succ]))
        (refine q_val (v := .int .u16 I) (by rfl) (fun w hC => by go_simp; first | done | exact EI.out | (rw [EI.out])) ?_; (try simp only [Act.put, List.getElem_toArray, List.getElem_cons_succ, List.getElem_cons_zero, List.setIfInBounds_toArray, List.set_cons_zero, List.set_cons_succ]))
        (refine q_val (v := .bool false) (by rfl) (fun w hC => by go_simp) ?_; (try simp only [Act.put, List.getElem_toArray, List.getElem_cons_succ, List.getElem_cons_zero, List.setIfInBounds_toArray, List.set_cons_zero, List.set_cons_succ]))
        (refine q_val (v := .bool false) (by rfl) ?_ ?_; (· (intro w hC; go_simp; try with_reducible rfl)); (try simp only [Act.put, List.getElem_toArray, List.getElem_cons_succ, List.getElem_cons_zero, List.setIfInBounds_toArray, List.set_cons_zero, List.set_cons_succ]))
        refine wpQuiet_nil ?_
        intro w5 hC5
        have K5 := Lib.hid (show Below wB.heap.size wB w5 from E11.out.trans (hC5.mono E11.out.size))
        clear hC5
        go_wp2_with fail
        go_roundw
        case rel => exact ⟨k + 1, by omega, by go_num, K5.out⟩
        case measure => simp [intOf]; omega
    · go_wp2_with fail
      exact HKX.out _ _ (c14 w0 wB x A5 A6 vid g b5 b6 t a1 n1 c1 d1 e1 a2 n2 c2 d2 e2 a3 n3 c3 d3 e3 y4 HH _ _ _ _ _ _ _ _ _ _ _ _ _ _ _ _ _ _ _ _ _ _ _ _ _ _ _ _ _ _ _ _ _ _ _ _ _ _ _ _ _ _ _ _ _ _ _ _ _ _ _ _ _ _ _ _ _ _ _ _ _ _ _ _ _ _ _ _ _ _ _ _ _ _ _ _ _ _ _ _ _ _ _ _ _ _ _ _ _ _ _ _ _ _ _ _ _ _ _ _ _ _ _ _ _ _ _ _ _ _ _ _ _ _ _ _ _ _ _ _ _ _ _ _ _ _ _ _ _ _ _ _ _ _ _ _ _ _ _ _ _ _ _ _ _ _ _ _ _ _ _ _ _ _ _ _ _ _ _ _ _ _ _ _ _ _ _ _ _ wr HI.out)

end Go.Proofs.Ytpbdamnlfpfclaa
