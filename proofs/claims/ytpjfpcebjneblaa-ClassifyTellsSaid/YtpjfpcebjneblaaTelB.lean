/- ClassifyTells' walk: what stands behind its loop, piece by piece. -/
import Derived.Test.YtpjfpcebjneblaaTelA
namespace Go.Proofs.Ytpjfpcebjneblaa
open Go.RowKit
attribute [local irreducible] wpQuiet
set_option linter.unusedSimpArgs false
set_option linter.unusedVariables false

set_option maxRecDepth 100000 in
set_option maxHeartbeats 16000000 in
theorem t25 (w0 w1 : World) (xs : Array Value) (g b A B P : Nat) (pv : Nat) (ac : Int) (fi : Bool) (no : Int) (tg : Bool) (vi : Nat) (sl : Value) (l : List Vl) (HB1 : Hid (Below w0.heap.size w0 w1)) (HCELL : Hid (Cells3 w1 g pv ac fi no tg vi sl)) (vid : Nat) (own acc found has : Bool) (xv m u : Nat) (HF : Hid ((findV vid l).2 = found ∧ (findV vid l).1 = ⟨xv, m, u⟩ ∧ vid = (if ownB tg vi then vi else pv) ∧ own = ownB tg vi ∧ has = hasB m no ∧ m < 65536 ∧ acc = accB ac own)) (n : Int) (HN : Hid (n = ingC ac fi own found has)) (f5 f6 f8 f9 f11 f12 f13 f14 f15 f16 f17 f18 f19 f20 f21 f22 f23 f24 f25 f26 f27 f28 f29 f30 f31 f32 f33 f34 f35 f36 f37 f38 f39 f40 f41 f42 f43 f44 f45 f46 f47 f48 f49 f50 f51 f52 f53 f54 f55 f56 f57 f58 f59 f60 f61 f62 f63 f64 f65 f66 f67 f68 f69 f70 f71 f72 f73 f74 f75 f76 f77 f78 f79 f80 f81 f82 f83 f84 f85 f86 f87 f88 f89 f90 f91 f92 f93 f94 f95 f96 f97 f98 f99 f100 f101 f102 f103 f104 f105 f106 f107 f108 f109 f110 f111 f112 f113 f114 f115 f116 f117 f118 f119 f120 f121 f122 f123 f124 f125 f126 f127 f128 f129 f130 f131 f132 f133 f134 f135 f136 f137 f138 f139 f140 f141 f142 f143 f144 f145 f146 f147 f148 f149 f150 f151 f152 f153 f154 f155 f156 f157 f158 f159 f160 f161 f162 f163 f164 f165 f166 f167 f168 : Value) (wc : World) (KC : Ctx w1 b A B P (poA pv ac fi) l wc) :
    Code.wp Try.prog (tail3 25) (bodyPost Try.prog Try.f3 fun e w' => e = .returned (.bool true) ∧ Below w0.heap.size w0 w') { tmps := #[.agg xs, .pointer (some ⟨g, 0, none⟩), .bool false, .pointer (some ⟨b, 0, none⟩), .pointer (some ⟨P, 0, none⟩), f5, f6, .int .u16 (ingV vid n : Nat), f8, f9, .int .i64 n, f11, f12, f13, f14, f15, f16, f17, f18, f19, f20, f21, f22, f23, f24, f25, f26, f27, f28, f29, f30, f31, f32, f33, f34, f35, f36, f37, f38, f39, f40, f41, f42, f43, f44, f45, f46, f47, f48, f49, f50, f51, f52, f53, f54, f55, f56, f57, f58, f59, f60, f61, f62, f63, f64, f65, f66, f67, f68, f69, f70, f71, f72, f73, f74, f75, f76, f77, f78, f79, f80, f81, f82, f83, f84, f85, f86, f87, f88, f89, f90, f91, f92, f93, f94, f95, f96, f97, f98, f99, f100, f101, f102, f103, f104, f105, f106, f107, f108, f109, f110, f111, f112, f113, f114, f115, f116, f117, f118, f119, f120, f121, f122, f123, f124, f125, f126, f127, f128, f129, f130, f131, f132, f133, f134, f135, f136, f137, f138, f139, f140, f141, f142, f143, f144, f145, f146, f147, f148, f149, f150, f151, f152, f153, f154, f155, f156, f157, f158, f159, f160, f161, f162, f163, f164, f165, f166, f167, f168], defers := [] } wc := by
  have K0 := Lib.hid KC
  clear KC
  conv => arg 2; whnf
  conv => arg 4; zeta
  have SZP := Lib.hid poSize
  have HI1 := Lib.hid (show ∀ W, Ctx w1 b A B P (poA pv ac fi) l W → Calls Try.prog 14 #[.agg #[.int .u16 (pv : Nat), .int .i64 ac, .bool fi], .int .i64 no, .agg #[.int .u8 0, .int .u8 0, .int .u8 0, .int .u8 0, .int .u8 0, .int .u8 0, .int .u8 0, .int .u8 0, .int .u8 0, .int .u8 0, .int .u8 0, .int .u8 0, .bool tg, .int .u8 0, .bool false, .int .u16 (vi : Nat), .int .u16 0, .string ⟨#[]⟩], .pointer (some ⟨b, 0, none⟩)] W fun e w' => e = .returned (.tuple #[.int .u16 (ingV vid n : Nat), .int .i64 n]) ∧ Ctx w1 b A B P (poA pv ac fi) l w' from fun W hW => by
    have := ingress_any pv ac fi no #[.int .u8 0, .int .u8 0, .int .u8 0, .int .u8 0, .int .u8 0, .int .u8 0, .int .u8 0, .int .u8 0, .int .u8 0, .int .u8 0, .int .u8 0, .int .u8 0, .bool tg, .int .u8 0, .bool false, .int .u16 (vi : Nat), .int .u16 0, .string ⟨#[]⟩] tg vi rfl rfl rfl (.pointer (some ⟨b, 0, none⟩)) ⟨xv, m, u⟩ (Nat.lt_trans HF.out.2.2.2.2.2.1 (by decide)) found W (fun W' hb => by
      rw [← HF.out.2.2.1, ← HF.out.2.1, ← HF.out.1]
      exact get_find vid (hW.next hb).one.tab)
    rw [← HF.out.2.2.1, ← HF.out.2.2.2.1, show hasB (⟨xv, m, u⟩ : Vl).mem no = has from HF.out.2.2.2.2.1.symm, ← HN.out] at this
    exact this.mono fun e w' ⟨q1, q2⟩ => ⟨q1, hW.next q2⟩)
  have HI2 := Lib.hid (show ∀ W, Ctx w1 b A B P (poA pv ac fi) l W → Calls Try.prog 14 #[.agg #[.int .u16 (pv : Nat), .int .i64 ac, .bool fi], .int .i64 no, .agg #[.int .u8 0, .int .u8 0, .int .u8 0, .int .u8 0, .int .u8 0, .int .u8 0, .int .u8 0, .int .u8 0, .int .u8 0, .int .u8 0, .int .u8 0, .int .u8 0, .bool tg, .int .u8 0, .bool false, .int .u16 (vi : Nat), .int .u16 3, .string ⟨#[120]⟩], .pointer none] W fun e w' => e = .returned (.tuple #[.int .u16 0, .int .i64 (if acc = false then 1 else 2)]) ∧ Ctx w1 b A B P (poA pv ac fi) l w' from fun W hW => by
    have := ingress_any pv ac fi no #[.int .u8 0, .int .u8 0, .int .u8 0, .int .u8 0, .int .u8 0, .int .u8 0, .int .u8 0, .int .u8 0, .int .u8 0, .int .u8 0, .int .u8 0, .int .u8 0, .bool tg, .int .u8 0, .bool false, .int .u16 (vi : Nat), .int .u16 3, .string ⟨#[120]⟩] tg vi rfl rfl rfl (.pointer none) ⟨0, 0, 0⟩ (by decide) false W (fun W' hb => get_none W' _)
    have e1 : ingC ac fi (ownB tg vi) false (hasB (⟨0, 0, 0⟩ : Vl).mem no) = if acc = false then 1 else 2 := by
      unfold ingC
      rw [← HF.out.2.2.2.1, ← HF.out.2.2.2.2.2.2]
      rfl
    rw [e1, show ∀ v, ingV v (if acc = false then 1 else 2) = 0 from fun v => by unfold ingV; rw [if_neg (by split <;> decide)]] at this
    exact this.mono fun e w' ⟨q1, q2⟩ => ⟨q1, hW.next q2⟩)
  obtain ⟨c0, c1, c2, c3, c4, c5, c6⟩ := HCELL.out wc K0.out.one.below
  have p0 : wc.cell? ⟨P, 0, none⟩ = some (.int .u16 (pv : Nat)) := K0.out.blk.cell 0
  have p1 : wc.cell? ⟨P, 1, none⟩ = some (.int .i64 ac) := K0.out.blk.cell 1
  have p2 : wc.cell? ⟨P, 2, none⟩ = some (.bool fi) := K0.out.blk.cell 2
  go_upto_region 26 with (go_at_call 14; with_reducible refine (HI1.out wc K0.out).mono ?_; rintro e w6 ⟨rfl, hK6⟩)
  have K6 := Lib.hid hK6
  clear hK6 c0 c1 c2 c3 c4 c5 c6 p0 p1 p2
  obtain ⟨c0, c1, c2, c3, c4, c5, c6⟩ := HCELL.out w6 K6.out.one.below
  have p0 : w6.cell? ⟨P, 0, none⟩ = some (.int .u16 (pv : Nat)) := K6.out.blk.cell 0
  have p1 : w6.cell? ⟨P, 1, none⟩ = some (.int .i64 ac) := K6.out.blk.cell 1
  have p2 : w6.cell? ⟨P, 2, none⟩ = some (.bool fi) := K6.out.blk.cell 2
  go_upto_region 27 with (go_at_call 14; with_reducible refine (HI2.out w6 K6.out).mono ?_; rintro e w7 ⟨rfl, hK7⟩)
  have B7 := Lib.hid (HB1.out.trans (hK7.one.below.mono HB1.out.size))
  clear hK7 c0 c1 c2 c3 c4 c5 c6 p0 p1 p2
  cases acc with
  | true =>
    simp only [Bool.true_eq_false, if_false]
    go_wp2_with fail
    go_ret
    exact ⟨rfl, B7.out⟩
  | false =>
    simp only [if_true]
    have hn1 : n = 1 := by rw [HN.out]; unfold ingC; rw [← HF.out.2.2.2.2.2.2, if_pos rfl]
    subst hn1
    go_wp2_with fail
    go_ret
    exact ⟨rfl, B7.out⟩

set_option maxRecDepth 100000 in
set_option maxHeartbeats 16000000 in
theorem t23 (w0 w1 : World) (xs : Array Value) (g b A B P : Nat) (pv : Nat) (ac : Int) (fi : Bool) (no : Int) (tg : Bool) (vi : Nat) (sl : Value) (l : List Vl) (HB1 : Hid (Below w0.heap.size w0 w1)) (HCELL : Hid (Cells3 w1 g pv ac fi no tg vi sl)) (vid : Nat) (own acc found has : Bool) (xv m u : Nat) (HF : Hid ((findV vid l).2 = found ∧ (findV vid l).1 = ⟨xv, m, u⟩ ∧ vid = (if ownB tg vi then vi else pv) ∧ own = ownB tg vi ∧ has = hasB m no ∧ m < 65536 ∧ acc = accB ac own)) (n : Int) (HN : Hid (n = ingC ac fi own found has)) (f5 f6 f8 f9 f11 f12 f13 f14 f15 f16 f17 f18 f19 f20 f21 f22 f23 f24 f25 f26 f27 f28 f29 f30 f31 f32 f33 f34 f35 f36 f37 f38 f39 f40 f41 f42 f43 f44 f45 f46 f47 f48 f49 f50 f51 f52 f53 f54 f55 f56 f57 f58 f59 f60 f61 f62 f63 f64 f65 f66 f67 f68 f69 f70 f71 f72 f73 f74 f75 f76 f77 f78 f79 f80 f81 f82 f83 f84 f85 f86 f87 f88 f89 f90 f91 f92 f93 f94 f95 f96 f97 f98 f99 f100 f101 f102 f103 f104 f105 f106 f107 f108 f109 f110 f111 f112 f113 f114 f115 f116 f117 f118 f119 f120 f121 f122 f123 f124 f125 f126 f127 f128 f129 f130 f131 f132 f133 f134 f135 f136 f137 f138 f139 f140 f141 f142 f143 f144 f145 f146 f147 f148 f149 f150 f151 f152 f153 f154 f155 f156 f157 f158 f159 f160 f161 f162 f163 f164 f165 f166 f167 f168 : Value) (wc : World) (KC : Ctx w1 b A B P (poA pv ac fi) l wc) :
    Code.wp Try.prog (tail3 23) (bodyPost Try.prog Try.f3 fun e w' => e = .returned (.bool true) ∧ Below w0.heap.size w0 w') { tmps := #[.agg xs, .pointer (some ⟨g, 0, none⟩), .bool false, .pointer (some ⟨b, 0, none⟩), .pointer (some ⟨P, 0, none⟩), f5, f6, .int .u16 (vid : Nat), f8, f9, .int .i64 n, f11, f12, f13, f14, f15, f16, f17, f18, f19, f20, f21, f22, f23, f24, f25, f26, f27, f28, f29, f30, f31, f32, f33, f34, f35, f36, f37, f38, f39, f40, f41, f42, f43, f44, f45, f46, f47, f48, f49, f50, f51, f52, f53, f54, f55, f56, f57, f58, f59, f60, f61, f62, f63, f64, f65, f66, f67, f68, f69, f70, f71, f72, f73, f74, f75, f76, f77, f78, f79, f80, f81, f82, f83, f84, f85, f86, f87, f88, f89, f90, f91, f92, f93, f94, f95, f96, f97, f98, f99, f100, f101, f102, f103, f104, f105, f106, f107, f108, f109, f110, f111, f112, f113, f114, f115, f116, f117, f118, f119, f120, f121, f122, f123, f124, f125, f126, f127, f128, f129, f130, f131, f132, f133, f134, f135, f136, f137, f138, f139, f140, f141, f142, f143, f144, f145, f146, f147, f148, f149, f150, f151, f152, f153, f154, f155, f156, f157, f158, f159, f160, f161, f162, f163, f164, f165, f166, f167, f168], defers := [] } wc := by
  have K0 := Lib.hid KC
  clear KC
  conv => arg 2; whnf
  conv => arg 4; zeta
  go_upto_if 119 with fail
  obtain ⟨nz, hnz⟩ : ∃ nz, nz = (n != 0) := ⟨_, rfl⟩
  have NZ := Lib.hid hnz
  rw [← hnz]
  clear hnz
  go_cut [7] (fun s wx => s = .int .u16 (ingV vid n : Nat) ∧ Ctx w1 b A B P (poA pv ac fi) l wx)
  case first =>
    cases nz with
    | false =>
      have AA := Lib.hid (show ingV vid n = vid by unfold ingV; rw [if_pos (by have := NZ.out; simpa using this.symm)])
      go_wp2_with fail
      go_meet
      exact ⟨by rw [AA.out], K0.out⟩
    | true =>
      have AA := Lib.hid (show ingV vid n = 0 by unfold ingV; rw [if_neg (by have := NZ.out; simpa using this.symm)])
      go_wp2_with fail
      go_meet
      exact ⟨by rw [AA.out]; rfl, K0.out⟩
  case rest =>
    obtain ⟨rfl, KN⟩ := hcut
    refine (show ∀ a' w', Code.wp Try.prog (tail3 25) (bodyPost Try.prog Try.f3 fun e w' => e = .returned (.bool true) ∧ Below w0.heap.size w0 w') a' w' → _ from by assumption) _ _ (t25 w0 w1 xs g b A B P pv ac fi no tg vi sl l HB1 HCELL vid own acc found has xv m u HF n HN _ _ _ _ _ _ _ _ _ _ _ _ _ _ _ _ _ _ _ _ _ _ _ _ _ _ _ _ _ _ _ _ _ _ _ _ _ _ _ _ _ _ _ _ _ _ _ _ _ _ _ _ _ _ _ _ _ _ _ _ _ _ _ _ _ _ _ _ _ _ _ _ _ _ _ _ _ _ _ _ _ _ _ _ _ _ _ _ _ _ _ _ _ _ _ _ _ _ _ _ _ _ _ _ _ _ _ _ _ _ _ _ _ _ _ _ _ _ _ _ _ _ _ _ _ _ _ _ _ _ _ _ _ _ _ _ _ _ _ _ _ _ _ _ _ _ _ _ _ _ _ _ _ _ _ _ _ _ _ _ _ _ wc KN)

set_option maxRecDepth 100000 in
set_option maxHeartbeats 16000000 in
theorem t21 (w0 w1 : World) (xs : Array Value) (g b A B P : Nat) (pv : Nat) (ac : Int) (fi : Bool) (no : Int) (tg : Bool) (vi : Nat) (sl : Value) (l : List Vl) (HB1 : Hid (Below w0.heap.size w0 w1)) (HCELL : Hid (Cells3 w1 g pv ac fi no tg vi sl)) (vid : Nat) (own acc found has : Bool) (xv m u : Nat) (HF : Hid ((findV vid l).2 = found ∧ (findV vid l).1 = ⟨xv, m, u⟩ ∧ vid = (if ownB tg vi then vi else pv) ∧ own = ownB tg vi ∧ has = hasB m no ∧ m < 65536 ∧ acc = accB ac own)) (n2 : Int) (HN : Hid ((if acc = false then 1 else n2) = ingC ac fi own found has)) (f5 f8 f9 f11 f12 f13 f14 f15 f16 f17 f18 f19 f20 f21 f22 f23 f24 f25 f26 f27 f28 f29 f30 f31 f32 f33 f34 f35 f36 f37 f38 f39 f40 f41 f42 f43 f44 f45 f46 f47 f48 f49 f50 f51 f52 f53 f54 f55 f56 f57 f58 f59 f60 f61 f62 f63 f64 f65 f66 f67 f68 f69 f70 f71 f72 f73 f74 f75 f76 f77 f78 f79 f80 f81 f82 f83 f84 f85 f86 f87 f88 f89 f90 f91 f92 f93 f94 f95 f96 f97 f98 f99 f100 f101 f102 f103 f104 f105 f106 f107 f108 f109 f110 f111 f112 f113 f114 f115 f116 f117 f118 f119 f120 f121 f122 f123 f124 f125 f126 f127 f128 f129 f130 f131 f132 f133 f134 f135 f136 f137 f138 f139 f140 f141 f142 f143 f144 f145 f146 f147 f148 f149 f150 f151 f152 f153 f154 f155 f156 f157 f158 f159 f160 f161 f162 f163 f164 f165 f166 f167 f168 : Value) (wc : World) (KC : Ctx w1 b A B P (poA pv ac fi) l wc) :
    Code.wp Try.prog (tail3 21) (bodyPost Try.prog Try.f3 fun e w' => e = .returned (.bool true) ∧ Below w0.heap.size w0 w') { tmps := #[.agg xs, .pointer (some ⟨g, 0, none⟩), .bool false, .pointer (some ⟨b, 0, none⟩), .pointer (some ⟨P, 0, none⟩), f5, .bool own, .int .u16 (vid : Nat), f8, f9, .int .i64 n2, f11, f12, f13, f14, f15, f16, f17, f18, f19, f20, f21, f22, f23, f24, f25, f26, f27, f28, f29, f30, f31, f32, f33, f34, f35, f36, f37, f38, f39, f40, f41, f42, f43, f44, f45, f46, f47, f48, f49, f50, f51, f52, f53, f54, f55, f56, f57, f58, f59, f60, f61, f62, f63, f64, f65, f66, f67, f68, f69, f70, f71, f72, f73, f74, f75, f76, f77, f78, f79, f80, f81, f82, f83, f84, f85, f86, f87, f88, f89, f90, f91, f92, f93, f94, f95, f96, f97, f98, f99, f100, f101, f102, f103, f104, f105, f106, f107, f108, f109, f110, f111, f112, f113, f114, f115, f116, f117, f118, f119, f120, f121, f122, f123, f124, f125, f126, f127, f128, f129, f130, f131, f132, f133, f134, f135, f136, f137, f138, f139, f140, f141, f142, f143, f144, f145, f146, f147, f148, f149, f150, f151, f152, f153, f154, f155, f156, f157, f158, f159, f160, f161, f162, f163, f164, f165, f166, f167, f168], defers := [] } wc := by
  have K0 := Lib.hid KC
  clear KC
  conv => arg 2; whnf
  conv => arg 4; zeta
  have ACC := Lib.hid HF.out.2.2.2.2.2.2
  go_upto_region 21 with fail
  obtain ⟨c0, c1, c2, c3, c4, c5, c6⟩ := HCELL.out wc K0.out.one.below
  go_cut [117] (fun s wx => s = .bool (!acc) ∧ Ctx w1 b A B P (poA pv ac fi) l wx)
  case first =>
    cases own with
    | true =>
      cases e2 : (ac == 2) with
      | false =>
        have AA := Lib.hid (show acc = true by rw [ACC.out]; unfold accB; rw [if_neg (show ¬ ac = 2 by simpa using e2)]; split <;> rfl)
        go_wp2_with fail
        go_meet
        exact ⟨by rw [AA.out]; rfl, K0.out⟩
      | true =>
        have AA := Lib.hid (show acc = false by rw [ACC.out, show ac = 2 by simpa using e2]; rfl)
        go_wp2_with fail
        go_meet
        exact ⟨by rw [AA.out]; rfl, K0.out⟩
    | false =>
      cases e1 : (ac == 1) with
      | false =>
        have AA := Lib.hid (show acc = true by rw [ACC.out]; unfold accB; rw [if_neg (show ¬ ac = 1 by simpa using e1)]; split <;> rfl)
        go_wp2_with fail
        go_meet
        exact ⟨by rw [AA.out]; rfl, K0.out⟩
      | true =>
        have AA := Lib.hid (show acc = false by rw [ACC.out, show ac = 1 by simpa using e1]; rfl)
        go_wp2_with fail
        go_meet
        exact ⟨by rw [AA.out]; rfl, K0.out⟩
  case rest =>
    obtain ⟨rfl, hC21⟩ := hcut
    have K21 := Lib.hid hC21
    clear hC21 c0 c1 c2 c3 c4 c5 c6
    obtain ⟨nac, hnac⟩ : ∃ nac, nac = !acc := ⟨_, rfl⟩
    have NAC := Lib.hid hnac
    rw [← hnac]
    clear hnac
    go_upto_if 117 with fail
    go_cut [10] (fun s wx => s = .int .i64 (if acc = false then 1 else n2) ∧ Ctx w1 b A B P (poA pv ac fi) l wx)
    case first =>
      cases nac with
      | false =>
        have AA := Lib.hid (show acc = true by have := NAC.out; cases acc; cases this; rfl)
        go_wp2_with fail
        go_meet
        exact ⟨by rw [AA.out]; rfl, K21.out⟩
      | true =>
        have AA := Lib.hid (show acc = false by have := NAC.out; cases acc; rfl; cases this)
        go_wp2_with fail
        go_meet
        exact ⟨by rw [AA.out]; rfl, K21.out⟩
    case rest =>
      obtain ⟨rfl, KN⟩ := hcut
      refine (show ∀ a' w', Code.wp Try.prog (tail3 23) (bodyPost Try.prog Try.f3 fun e w' => e = .returned (.bool true) ∧ Below w0.heap.size w0 w') a' w' → _ from by assumption) _ _ (t23 w0 w1 xs g b A B P pv ac fi no tg vi sl l HB1 HCELL vid own acc found has xv m u HF (if acc = false then 1 else n2) HN _ _ _ _ _ _ _ _ _ _ _ _ _ _ _ _ _ _ _ _ _ _ _ _ _ _ _ _ _ _ _ _ _ _ _ _ _ _ _ _ _ _ _ _ _ _ _ _ _ _ _ _ _ _ _ _ _ _ _ _ _ _ _ _ _ _ _ _ _ _ _ _ _ _ _ _ _ _ _ _ _ _ _ _ _ _ _ _ _ _ _ _ _ _ _ _ _ _ _ _ _ _ _ _ _ _ _ _ _ _ _ _ _ _ _ _ _ _ _ _ _ _ _ _ _ _ _ _ _ _ _ _ _ _ _ _ _ _ _ _ _ _ _ _ _ _ _ _ _ _ _ _ _ _ _ _ _ _ _ _ _ _ wc KN)

set_option maxRecDepth 100000 in
set_option maxHeartbeats 16000000 in
theorem t19 (w0 w1 : World) (xs : Array Value) (g b A B P : Nat) (pv : Nat) (ac : Int) (fi : Bool) (no : Int) (tg : Bool) (vi : Nat) (sl : Value) (l : List Vl) (HB1 : Hid (Below w0.heap.size w0 w1)) (HCELL : Hid (Cells3 w1 g pv ac fi no tg vi sl)) (vid : Nat) (own acc found has : Bool) (xv m u : Nat) (HF : Hid ((findV vid l).2 = found ∧ (findV vid l).1 = ⟨xv, m, u⟩ ∧ vid = (if ownB tg vi then vi else pv) ∧ own = ownB tg vi ∧ has = hasB m no ∧ m < 65536 ∧ acc = accB ac own)) (n1 : Int) (HN : Hid ((if acc = false then 1 else if found = false then 2 else n1) = ingC ac fi own found has)) (f5 f8 f11 f12 f13 f14 f15 f16 f17 f18 f19 f20 f21 f22 f23 f24 f25 f26 f27 f28 f29 f30 f31 f32 f33 f34 f35 f36 f37 f38 f39 f40 f41 f42 f43 f44 f45 f46 f47 f48 f49 f50 f51 f52 f53 f54 f55 f56 f57 f58 f59 f60 f61 f62 f63 f64 f65 f66 f67 f68 f69 f70 f71 f72 f73 f74 f75 f76 f77 f78 f79 f80 f81 f82 f83 f84 f85 f86 f87 f88 f89 f90 f91 f92 f93 f94 f95 f96 f97 f98 f99 f100 f101 f102 f103 f104 f105 f106 f107 f108 f109 f110 f111 f112 f113 f114 f115 f116 f117 f118 f119 f120 f121 f122 f123 f124 f125 f126 f127 f128 f129 f130 f131 f132 f133 f134 f135 f136 f137 f138 f139 f140 f141 f142 f143 f144 f145 f146 f147 f148 f149 f150 f151 f152 f153 f154 f155 f156 f157 f158 f159 f160 f161 f162 f163 f164 f165 f166 f167 f168 : Value) (wc : World) (KC : Ctx w1 b A B P (poA pv ac fi) l wc) :
    Code.wp Try.prog (tail3 19) (bodyPost Try.prog Try.f3 fun e w' => e = .returned (.bool true) ∧ Below w0.heap.size w0 w') { tmps := #[.agg xs, .pointer (some ⟨g, 0, none⟩), .bool false, .pointer (some ⟨b, 0, none⟩), .pointer (some ⟨P, 0, none⟩), f5, .bool own, .int .u16 (vid : Nat), f8, .bool found, .int .i64 n1, f11, f12, f13, f14, f15, f16, f17, f18, f19, f20, f21, f22, f23, f24, f25, f26, f27, f28, f29, f30, f31, f32, f33, f34, f35, f36, f37, f38, f39, f40, f41, f42, f43, f44, f45, f46, f47, f48, f49, f50, f51, f52, f53, f54, f55, f56, f57, f58, f59, f60, f61, f62, f63, f64, f65, f66, f67, f68, f69, f70, f71, f72, f73, f74, f75, f76, f77, f78, f79, f80, f81, f82, f83, f84, f85, f86, f87, f88, f89, f90, f91, f92, f93, f94, f95, f96, f97, f98, f99, f100, f101, f102, f103, f104, f105, f106, f107, f108, f109, f110, f111, f112, f113, f114, f115, f116, f117, f118, f119, f120, f121, f122, f123, f124, f125, f126, f127, f128, f129, f130, f131, f132, f133, f134, f135, f136, f137, f138, f139, f140, f141, f142, f143, f144, f145, f146, f147, f148, f149, f150, f151, f152, f153, f154, f155, f156, f157, f158, f159, f160, f161, f162, f163, f164, f165, f166, f167, f168], defers := [] } wc := by
  have K0 := Lib.hid KC
  clear KC
  conv => arg 2; whnf
  conv => arg 4; zeta
  go_upto_if 102 with fail
  go_cut [10] (fun s wx => s = .int .i64 (if found = false then 2 else n1) ∧ Ctx w1 b A B P (poA pv ac fi) l wx)
  case first =>
    cases found with
    | false =>
      go_wp2_with fail
      go_meet
      exact ⟨rfl, K0.out⟩
    | true =>
      go_wp2_with fail
      go_meet
      exact ⟨rfl, K0.out⟩
  case rest =>
    obtain ⟨rfl, KN⟩ := hcut
    refine (show ∀ a' w', Code.wp Try.prog (tail3 21) (bodyPost Try.prog Try.f3 fun e w' => e = .returned (.bool true) ∧ Below w0.heap.size w0 w') a' w' → _ from by assumption) _ _ (t21 w0 w1 xs g b A B P pv ac fi no tg vi sl l HB1 HCELL vid own acc found has xv m u HF (if found = false then 2 else n1) HN _ _ _ _ _ _ _ _ _ _ _ _ _ _ _ _ _ _ _ _ _ _ _ _ _ _ _ _ _ _ _ _ _ _ _ _ _ _ _ _ _ _ _ _ _ _ _ _ _ _ _ _ _ _ _ _ _ _ _ _ _ _ _ _ _ _ _ _ _ _ _ _ _ _ _ _ _ _ _ _ _ _ _ _ _ _ _ _ _ _ _ _ _ _ _ _ _ _ _ _ _ _ _ _ _ _ _ _ _ _ _ _ _ _ _ _ _ _ _ _ _ _ _ _ _ _ _ _ _ _ _ _ _ _ _ _ _ _ _ _ _ _ _ _ _ _ _ _ _ _ _ _ _ _ _ _ _ _ _ _ _ wc KN)

set_option maxRecDepth 100000 in
set_option maxHeartbeats 16000000 in
theorem t17 (w0 w1 : World) (xs : Array Value) (g b A B P : Nat) (pv : Nat) (ac : Int) (fi : Bool) (no : Int) (tg : Bool) (vi : Nat) (sl : Value) (l : List Vl) (HB1 : Hid (Below w0.heap.size w0 w1)) (HCELL : Hid (Cells3 w1 g pv ac fi no tg vi sl)) (vid : Nat) (own acc found has : Bool) (xv m u : Nat) (HF : Hid ((findV vid l).2 = found ∧ (findV vid l).1 = ⟨xv, m, u⟩ ∧ vid = (if ownB tg vi then vi else pv) ∧ own = ownB tg vi ∧ has = hasB m no ∧ m < 65536 ∧ acc = accB ac own)) (V : Nat) (f5 f11 f12 f13 f14 f15 f16 f17 f18 f19 f20 f21 f22 f23 f24 f25 f26 f27 f28 f29 f30 f31 f32 f33 f34 f35 f36 f37 f38 f39 f40 f41 f42 f43 f44 f45 f46 f47 f48 f49 f50 f51 f52 f53 f54 f55 f56 f57 f58 f59 f60 f61 f62 f63 f64 f65 f66 f67 f68 f69 f70 f71 f72 f73 f74 f75 f76 f77 f78 f79 f80 f81 f82 f83 f84 f85 f86 f87 f88 f89 f90 f91 f92 f93 f94 f95 f96 f97 f98 f99 f100 f101 f102 f103 f104 f105 f106 f107 f108 f109 f110 f111 f112 f113 f114 f115 f116 f117 f118 f119 f120 f121 f122 f123 f124 f125 f126 f127 f128 f129 f130 f131 f132 f133 f134 f135 f136 f137 f138 f139 f140 f141 f142 f143 f144 f145 f146 f147 f148 f149 f150 f151 f152 f153 f154 f155 f156 f157 f158 f159 f160 f161 f162 f163 f164 f165 f166 f167 f168 : Value) (wc : World) (KV : Blk wc V #[.int .u16 (xv : Nat), .int .u32 (m : Nat), .int .u32 (u : Nat)] 37) (KC : Ctx w1 b A B P (poA pv ac fi) l wc) :
    Code.wp Try.prog (tail3 17) (bodyPost Try.prog Try.f3 fun e w' => e = .returned (.bool true) ∧ Below w0.heap.size w0 w') { tmps := #[.agg xs, .pointer (some ⟨g, 0, none⟩), .bool false, .pointer (some ⟨b, 0, none⟩), .pointer (some ⟨P, 0, none⟩), f5, .bool own, .int .u16 (vid : Nat), .pointer (some ⟨V, 0, none⟩), .bool found, .int .i64 0, f11, f12, f13, f14, f15, f16, f17, f18, f19, f20, f21, f22, f23, f24, f25, f26, f27, f28, f29, f30, f31, f32, f33, f34, f35, f36, f37, f38, f39, f40, f41, f42, f43, f44, f45, f46, f47, f48, f49, f50, f51, f52, f53, f54, f55, f56, f57, f58, f59, f60, f61, f62, f63, f64, f65, f66, f67, f68, f69, f70, f71, f72, f73, f74, f75, f76, f77, f78, f79, f80, f81, f82, f83, f84, f85, f86, f87, f88, f89, f90, f91, f92, f93, f94, f95, f96, f97, f98, f99, f100, f101, f102, f103, f104, f105, f106, f107, f108, f109, f110, f111, f112, f113, f114, f115, f116, f117, f118, f119, f120, f121, f122, f123, f124, f125, f126, f127, f128, f129, f130, f131, f132, f133, f134, f135, f136, f137, f138, f139, f140, f141, f142, f143, f144, f145, f146, f147, f148, f149, f150, f151, f152, f153, f154, f155, f156, f157, f158, f159, f160, f161, f162, f163, f164, f165, f166, f167, f168], defers := [] } wc := by
  have K0 := Lib.hid KC
  clear KC
  conv => arg 2; whnf
  conv => arg 4; zeta
  have HAS := Lib.hid (show ∀ W : World, Calls Try.prog 13 #[.int .u32 (m : Nat), .int .i64 no] W fun e w' => e = .returned (.bool has) ∧ W = w' from fun W => by rw [HF.out.2.2.2.2.1]; exact has_any m no W (Nat.lt_trans HF.out.2.2.2.2.2.1 (by decide)))
  go_upto_region 17 with fail
  obtain ⟨c0, c1, c2, c3, c4, c5, c6⟩ := HCELL.out wc K0.out.one.below
  have v1 : wc.cell? ⟨V, 1, none⟩ = some (.int .u32 (m : Nat)) := KV.cell 1
  go_cut [100] (fun s wx => s = .bool (fi && !has) ∧ Ctx w1 b A B P (poA pv ac fi) l wx)
  case first =>
    cases fi with
    | false =>
      go_wp2_with fail
      go_meet
      exact ⟨rfl, K0.out⟩
    | true =>
      go_wp2_with (go_at_call 13; with_reducible refine (HAS.out _).mono ?_; rintro e w8 ⟨rfl, rfl⟩)
      go_meet
      exact ⟨rfl, K0.out⟩
  case rest =>
    obtain ⟨rfl, hC17⟩ := hcut
    have K17 := Lib.hid hC17
    clear hC17 c0 c1 c2 c3 c4 c5 c6 v1
    obtain ⟨bad, hbad⟩ : ∃ bad, bad = (fi && !has) := ⟨_, rfl⟩
    have BAD := Lib.hid hbad
    rw [← hbad]
    clear hbad
    go_upto_if 100 with fail
    go_cut [10] (fun s wx => s = .int .i64 (if bad = true then 3 else 0) ∧ Ctx w1 b A B P (poA pv ac fi) l wx)
    case first =>
      cases bad with
      | false =>
        go_wp2_with fail
        go_meet
        exact ⟨rfl, K17.out⟩
      | true =>
        go_wp2_with fail
        go_meet
        exact ⟨rfl, K17.out⟩
    case rest =>
      obtain ⟨rfl, KN⟩ := hcut
      have HN := Lib.hid (show (if acc = false then 1 else if found = false then 2 else (if bad = true then 3 else 0)) = ingC ac fi own found has by
        rw [BAD.out]
        unfold ingC
        rw [← HF.out.2.2.2.2.2.2]
        cases acc <;> cases found <;> cases fi <;> cases has <;> rfl)
      refine (show ∀ a' w', Code.wp Try.prog (tail3 19) (bodyPost Try.prog Try.f3 fun e w' => e = .returned (.bool true) ∧ Below w0.heap.size w0 w') a' w' → _ from by assumption) _ _ (t19 w0 w1 xs g b A B P pv ac fi no tg vi sl l HB1 HCELL vid own acc found has xv m u HF (if bad = true then 3 else 0) HN _ _ _ _ _ _ _ _ _ _ _ _ _ _ _ _ _ _ _ _ _ _ _ _ _ _ _ _ _ _ _ _ _ _ _ _ _ _ _ _ _ _ _ _ _ _ _ _ _ _ _ _ _ _ _ _ _ _ _ _ _ _ _ _ _ _ _ _ _ _ _ _ _ _ _ _ _ _ _ _ _ _ _ _ _ _ _ _ _ _ _ _ _ _ _ _ _ _ _ _ _ _ _ _ _ _ _ _ _ _ _ _ _ _ _ _ _ _ _ _ _ _ _ _ _ _ _ _ _ _ _ _ _ _ _ _ _ _ _ _ _ _ _ _ _ _ _ _ _ _ _ _ _ _ _ _ _ _ _ _ wc KN)

set_option maxRecDepth 100000 in
set_option maxHeartbeats 16000000 in
theorem t12 (w0 w1 : World) (xs : Array Value) (g b A B P : Nat) (pv : Nat) (ac : Int) (fi : Bool) (no : Int) (tg : Bool) (vi : Nat) (sl : Value) (l : List Vl) (HB1 : Hid (Below w0.heap.size w0 w1)) (HCELL : Hid (Cells3 w1 g pv ac fi no tg vi sl)) (own : Bool) (OWN : Hid (own = ownB tg vi)) (f5 f7 f8 f9 f10 f11 f12 f13 f14 f15 f16 f17 f18 f19 f20 f21 f22 f23 f24 f25 f26 f27 f28 f29 f30 f31 f32 f33 f34 f35 f36 f37 f38 f39 f40 f41 f42 f43 f44 f45 f46 f47 f48 f49 f50 f51 f52 f53 f54 f55 f56 f57 f58 f59 f60 f61 f62 f63 f64 f65 f66 f67 f68 f69 f70 f71 f72 f73 f74 f75 f76 f77 f78 f79 f80 f81 f82 f83 f84 f85 f86 f87 f88 f89 f90 f91 f92 f93 f94 f95 f96 f97 f98 f99 f100 f101 f102 f103 f104 f105 f106 f107 f108 f109 f110 f111 f112 f113 f114 f115 f116 f117 f118 f119 f120 f121 f122 f123 f124 f125 f126 f127 f128 f129 f130 f131 f132 f133 f134 f135 f136 f137 f138 f139 f140 f141 f142 f143 f144 f145 f146 f147 f148 f149 f150 f151 f152 f153 f154 f155 f156 f157 f158 f159 f160 f161 f162 f163 f164 f165 f166 f167 f168 : Value) (wc : World) (KC : Ctx w1 b A B P (poA pv ac fi) l wc) :
    Code.wp Try.prog (tail3 12) (bodyPost Try.prog Try.f3 fun e w' => e = .returned (.bool true) ∧ Below w0.heap.size w0 w') { tmps := #[.agg xs, .pointer (some ⟨g, 0, none⟩), .bool false, .pointer (some ⟨b, 0, none⟩), .pointer (some ⟨P, 0, none⟩), f5, .bool own, f7, f8, f9, f10, f11, f12, f13, f14, f15, f16, f17, f18, f19, f20, f21, f22, f23, f24, f25, f26, f27, f28, f29, f30, f31, f32, f33, f34, f35, f36, f37, f38, f39, f40, f41, f42, f43, f44, f45, f46, f47, f48, f49, f50, f51, f52, f53, f54, f55, f56, f57, f58, f59, f60, f61, f62, f63, f64, f65, f66, f67, f68, f69, f70, f71, f72, f73, f74, f75, f76, f77, f78, f79, f80, f81, f82, f83, f84, f85, f86, f87, f88, f89, f90, f91, f92, f93, f94, f95, f96, f97, f98, f99, f100, f101, f102, f103, f104, f105, f106, f107, f108, f109, f110, f111, f112, f113, f114, f115, f116, f117, f118, f119, f120, f121, f122, f123, f124, f125, f126, f127, f128, f129, f130, f131, f132, f133, f134, f135, f136, f137, f138, f139, f140, f141, f142, f143, f144, f145, f146, f147, f148, f149, f150, f151, f152, f153, f154, f155, f156, f157, f158, f159, f160, f161, f162, f163, f164, f165, f166, f167, f168], defers := [] } wc := by
  have K0 := Lib.hid KC
  clear KC
  conv => arg 2; whnf
  conv => arg 4; zeta
  obtain ⟨vid, hvid⟩ : ∃ vid : Nat, vid = if ownB tg vi then vi else pv := ⟨_, rfl⟩
  have VID := Lib.hid (show vid = if own then vi else pv by rw [hvid, OWN.out])
  have VID2 := Lib.hid hvid
  clear hvid
  obtain ⟨c0, c1, c2, c3, c4, c5, c6⟩ := HCELL.out wc K0.out.one.below
  go_upto_if 82 with fail
  go_cut [7] (fun s wx => s = .int .u16 (vid : Nat) ∧ Ctx w1 b A B P (poA pv ac fi) l wx)
  case first =>
    cases own with
    | false =>
      go_wp2_with fail
      go_meet
      exact ⟨by rw [VID.out]; rfl, K0.out⟩
    | true =>
      go_wp2_with fail
      go_meet
      exact ⟨by rw [VID.out]; rfl, K0.out⟩
  case rest =>
    obtain ⟨rfl, hC15⟩ := hcut
    have K15 := Lib.hid hC15
    clear hC15 c0 c1 c2 c3 c4 c5 c6
    have SM := Lib.hid (findV_small K15.out.small vid)
    obtain ⟨xx, hxx⟩ : ∃ xx, xx = (findV vid l).1 := ⟨_, rfl⟩
    obtain ⟨found, hfo⟩ : ∃ found, found = (findV vid l).2 := ⟨_, rfl⟩
    have HGET := Lib.hid (show ∀ W, Ctx w1 b A B P (poA pv ac fi) l W → Calls Try.prog 12 #[.pointer (some ⟨b, 0, none⟩), .int .u16 (vid : Nat)] W fun e w' => e = .returned (.tuple #[vlV xx, .bool found]) ∧ Below W.heap.size W w' from fun W hW => by
      rw [hxx, hfo]
      exact get_find vid hW.one.tab)
    rw [← hxx] at SM
    have HXX := Lib.hid (And.intro hfo.symm hxx.symm)
    clear hxx hfo
    obtain ⟨xv, m, u⟩ := xx
    go_upto_region 16 with (go_at_call 12; with_reducible refine (HGET.out _ K15.out).mono ?_; rintro e w6 ⟨rfl, hb6⟩)
    obtain ⟨W7, hW7⟩ : ∃ W7, W7 = w6.alloc (.cells #[.int .u16 (xv : Nat), .int .u32 (m : Nat), .int .u32 (u : Nat)] 37) := ⟨_, rfl⟩
    obtain ⟨V, hV⟩ : ∃ V, V = w6.heap.size := ⟨_, rfl⟩
    have C6 := Lib.hid (K15.out.next hb6)
    have K7 := Lib.hid (show Ctx w1 b A B P (poA pv ac fi) l W7 by rw [hW7]; exact C6.out.next ((Below.refl _ _).alloc (Nat.le_refl _) _))
    have KV := Lib.hid (show Blk W7 V #[.int .u16 (xv : Nat), .int .u32 (m : Nat), .int .u32 (u : Nat)] 37 by rw [hW7, hV]; exact Blk.new _ _ _)
    rw [← hW7, ← hV]
    clear hW7 hV hb6
    have HF := Lib.hid (show (findV vid l).2 = found ∧ (findV vid l).1 = ⟨xv, m, u⟩ ∧ vid = (if ownB tg vi then vi else pv) ∧ own = ownB tg vi ∧ hasB m no = hasB m no ∧ m < 65536 ∧ accB ac own = accB ac own from ⟨HXX.out.1, HXX.out.2, VID2.out, OWN.out, rfl, SM.out.1, rfl⟩)
    go_cut [10] (fun s wx => s = .int .i64 0 ∧ Blk wx V #[.int .u16 (xv : Nat), .int .u32 (m : Nat), .int .u32 (u : Nat)] 37 ∧ Ctx w1 b A B P (poA pv ac fi) l wx)
    case first =>
      go_wp2_with fail
      go_meet
      exact ⟨rfl, KV.out, K7.out⟩
    case rest =>
      obtain ⟨rfl, KB, KN⟩ := hcut
      rename_i KX hKX
      exact hKX _ _ (t17 w0 w1 xs g b A B P pv ac fi no tg vi sl l HB1 HCELL vid own (accB ac own) found (hasB m no) xv m u HF V _ _ _ _ _ _ _ _ _ _ _ _ _ _ _ _ _ _ _ _ _ _ _ _ _ _ _ _ _ _ _ _ _ _ _ _ _ _ _ _ _ _ _ _ _ _ _ _ _ _ _ _ _ _ _ _ _ _ _ _ _ _ _ _ _ _ _ _ _ _ _ _ _ _ _ _ _ _ _ _ _ _ _ _ _ _ _ _ _ _ _ _ _ _ _ _ _ _ _ _ _ _ _ _ _ _ _ _ _ _ _ _ _ _ _ _ _ _ _ _ _ _ _ _ _ _ _ _ _ _ _ _ _ _ _ _ _ _ _ _ _ _ _ _ _ _ _ _ _ _ _ _ _ _ _ _ _ _ _ wc KB KN)

end Go.Proofs.Ytpjfpcebjneblaa
