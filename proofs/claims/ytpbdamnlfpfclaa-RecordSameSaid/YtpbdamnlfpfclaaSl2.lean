/- RecordSame: its loop 2. -/
import Derived.Test.YtpbdamnlfpfclaaSl3
namespace Go.Proofs.Ytpbdamnlfpfclaa
open Go.RowKit
attribute [local irreducible] wpQuiet
set_option linter.unusedSimpArgs false
set_option linter.unusedVariables false

set_option maxRecDepth 100000 in
set_option maxHeartbeats 16000000 in
theorem sl2 (w0 : World) (x A7 A8 A9 : Array Value) (g p7 p8 p9 kk : Nat) (t tB : St) (z1 : Option Addr) (n1 c1 : Nat) (z2 : Option Addr) (n2 c2 : Nat) (z3 : Option Addr) (n3 c3 : Nat) (z4 : Option Addr) (n4 c4 : Nat) (a1 : Option Addr) (d1 : Nat) (b1 : Option Addr) (m1 h1 : Nat) (a2 : Option Addr) (d2 : Nat) (b2 : Option Addr) (m2 h2 : Nat) (a3 : Option Addr) (d3 : Nat) (b3 : Option Addr) (m3 h3 : Nat) (a4 : Option Addr) (d4 : Nat) (b4 : Option Addr) (m4 h4 : Nat) (HH : Hid (SmH w0 x A7 g p7 p9 kk t (.slice a1 n1 d1) (.slice a2 n2 d2) (.slice a3 n3 d3) (.slice a4 n4 d4) z1 n1 c1 z2 n2 c2 z3 n3 c3 z4 n4 c4)) (q8 : A8 = stA tB (.slice b1 m1 h1) (.slice b2 m2 h2) (.slice b3 m3 h3) (.slice b4 m4 h4)) (r : Bool) (HPC : r = true → n1 = m1 ∧ n2 = m2 ∧ n3 = m3 ∧ n4 = m4) (HRC : (r && (eqB t.vl tB.vl && (eqB t.st tB.st && eqB t.fd tB.fd))) = sameB t tB) (f0 f1 f4 f5 f6 f11 f12 f13 f14 f15 f16 f17 f18 f19 f20 f21 f22 f23 f24 f25 f26 f27 f28 f29 f30 f31 f32 f33 f34 f35 f36 f37 f38 f39 f40 f41 f42 f43 f44 f45 f46 f47 f48 f49 f50 f51 f52 f53 f54 f55 f56 f57 f58 f59 f60 f61 f62 f63 f64 f65 f66 f67 f68 f69 f70 f71 f72 f73 f74 f75 f76 f77 f78 f79 f80 f81 f82 f83 f84 f85 f86 f87 f88 f89 f90 f91 f92 f93 f94 f95 f96 f97 f98 f99 f100 f101 f102 f103 f104 f105 f106 f107 f108 f109 f110 f111 f112 f113 f114 f115 f116 f117 f118 f119 f120 f121 f122 f123 f124 f125 f126 f127 f128 f129 f130 f131 f132 f133 f134 f135 f136 f137 f138 f139 f140 f141 f142 f143 f144 f145 f146 f147 f148 f149 f150 f151 f152 f153 f154 f155 f156 f157 f158 f159 f160 f161 f162 f163 f164 f165 f166 f167 f168 f169 f170 f171 f172 f173 f174 f175 f176 f177 f178 f179 f180 f181 f182 f183 f184 f185 f186 f187 f188 f189 f190 f191 f192 f193 f194 f195 f196 f197 f198 f199 f200 f201 f202 f203 f204 f205 f206 f207 f208 f209 f210 f211 f212 f213 f214 f215 f216 f217 f218 f219 f220 f221 f222 f223 f224 f225 f226 f227 f228 f229 f230 f231 f232 f233 f234 f235 f236 f237 f238 f239 f240 f241 f242 f243 f244 f245 f246 f247 f248 f249 f250 f251 f252 f253 f254 f255 f256 f257 f258 f259 f260 f261 f262 f263 f264 f265 f266 f267 f268 f269 f270 f271 f272 f273 f274 f275 f276 f277 f278 f279 f280 f281 f282 f283 f284 f285 f286 f287 f288 f289 f290 f291 f292 f293 f294 f295 f296 f297 f298 f299 f300 f301 f302 f303 f304 f305 f306 f307 f308 : Value) (wj : World) (KC : S22 w0 x A7 A8 A9 g p7 p8 p9 t tB (.slice a1 n1 d1) (.slice a2 n2 d2) (.slice a3 n3 d3) (.slice a4 n4 d4) z1 n1 c1 z2 n2 c2 z3 n3 c3 z4 n4 c4 (.slice b1 m1 h1) (.slice b2 m2 h2) (.slice b3 m3 h3) (.slice b4 m4 h4) wj) :
    Code.wp Try.prog (tail4 10) (bodyPost Try.prog Try.f4 fun e w' => e = .returned (.bool true) ∧ Below w0.heap.size w0 w') { tmps := #[f0, f1, .int .u8 (kk : Nat), .pointer (some ⟨g, 0, none⟩), f4, f5, f6, .pointer (some ⟨p7, 0, none⟩), .pointer (some ⟨p8, 0, none⟩), .pointer (some ⟨p9, 0, none⟩), .bool r, f11, f12, f13, f14, f15, f16, f17, f18, f19, f20, f21, f22, f23, f24, f25, f26, f27, f28, f29, f30, f31, f32, f33, f34, f35, f36, f37, f38, f39, f40, f41, f42, f43, f44, f45, f46, f47, f48, f49, f50, f51, f52, f53, f54, f55, f56, f57, f58, f59, f60, f61, f62, f63, f64, f65, f66, f67, f68, f69, f70, f71, f72, f73, f74, f75, f76, f77, f78, f79, f80, f81, f82, f83, f84, f85, f86, f87, f88, f89, f90, f91, f92, f93, f94, f95, f96, f97, f98, f99, f100, f101, f102, f103, f104, f105, f106, f107, f108, f109, f110, f111, f112, f113, f114, f115, f116, f117, f118, f119, f120, f121, f122, f123, f124, f125, f126, f127, f128, f129, f130, f131, f132, f133, f134, f135, f136, f137, f138, f139, f140, f141, f142, f143, f144, f145, f146, f147, f148, f149, f150, f151, f152, f153, f154, f155, f156, f157, f158, f159, f160, f161, f162, f163, f164, f165, f166, f167, f168, f169, f170, f171, f172, f173, f174, f175, f176, f177, f178, f179, f180, f181, f182, f183, f184, f185, f186, f187, f188, f189, f190, f191, f192, f193, f194, f195, f196, f197, f198, f199, f200, f201, f202, f203, f204, f205, f206, f207, f208, f209, f210, f211, f212, f213, f214, f215, f216, f217, f218, f219, f220, f221, f222, f223, f224, f225, f226, f227, f228, f229, f230, f231, f232, f233, f234, f235, f236, f237, f238, f239, f240, f241, f242, f243, f244, f245, f246, f247, f248, f249, f250, f251, f252, f253, f254, f255, f256, f257, f258, f259, f260, f261, f262, f263, f264, f265, f266, f267, f268, f269, f270, f271, f272, f273, f274, f275, f276, f277, f278, f279, f280, f281, f282, f283, f284, f285, f286, f287, f288, f289, f290, f291, f292, f293, f294, f295, f296, f297, f298, f299, f300, f301, f302, f303, f304, f305, f306, f307, f308], defers := [] } wj := by
  have K0 := Lib.hid KC
  have HR := Lib.hid HRC
  have HP := Lib.hid HPC
  clear KC HRC HPC
  conv => arg 2; whnf
  conv => arg 4; zeta
  go_upto_region 11 with fail
  rename_i KX hKX
  have HKX := Lib.hid hKX
  clear hKX
  have CA := Lib.hid (own_cap K0.out.s.o7.o2)
  have CB := Lib.hid (own_cap K0.out.o8.o2)
  have LA := Lib.hid (own_len K0.out.s.o7.o2)
  have LB := Lib.hid (own_len K0.out.o8.o2)
  have hlc : (n2 : Int) ≤ 9223372036854775807 := by have q1 := CA.out.1; have q2 := CA.out.2; unfold maxLen at *; omega
  have C7 := Lib.hid (show ∀ W, Below wj.heap.size wj W → W.cell? ⟨p7, 7, none⟩ = some (.slice a2 n2 d2) from fun W hW => by
    have k := (K0.out.next hW).s.k7
    rw [HH.out.q7] at k
    exact (st_cells k).2.1)
  have C8 := Lib.hid (show ∀ W, Below wj.heap.size wj W → W.cell? ⟨p8, 7, none⟩ = some (.slice b2 m2 h2) from fun W hW => by
    have k := (K0.out.next hW).k8
    rw [q8] at k
    exact (st_cells k).2.1)
  go_loopw [10, 12] (fun s i wr => ∃ (k : Nat) (b : Bool), k ≤ n2 ∧ i = .int .i64 k ∧ s = .bool b ∧ (b = true → r = true ∧ ∀ q, q < k → t.vl[q]? = tB.vl[q]?) ∧ (b = false → (r && eqB t.vl tB.vl) = false) ∧ Below wj.heap.size wj wr) (fun _ i _ => (n2 - intOf i).toNat)
  case atStart => exact ⟨0, r, by omega, rfl, rfl, (fun h => ⟨h, fun q hq => absurd hq (by omega)⟩), (fun h => by rw [h]; rfl), Below.refl _ _⟩
  case round =>
    obtain ⟨k, b, hk, rfl, rfl, hT, hF, hI⟩ := hrel
    have HI := Lib.hid hI
    have HT := Lib.hid hT
    have HF := Lib.hid hF
    clear hI hT hF
    have cq := C7.out wr HI.out
    cases b with
    | false =>
      have NR := Lib.hid (show (false && (eqB t.st tB.st && eqB t.fd tB.fd)) = sameB t tB by
        have h := HR.out
        have h2 := HF.out rfl
        rw [← Bool.and_assoc, h2] at h; exact h)
      go_wp2_with fail
      exact HKX.out _ _ (sl3 w0 x A7 A8 A9 g p7 p8 p9 kk t tB z1 n1 c1 z2 n2 c2 z3 n3 c3 z4 n4 c4 a1 d1 b1 m1 h1 a2 d2 b2 m2 h2 a3 d3 b3 m3 h3 a4 d4 b4 m4 h4 HH q8 false (fun h => Bool.noConfusion h) NR.out _ _ _ _ _ _ _ _ _ _ _ _ _ _ _ _ _ _ _ _ _ _ _ _ _ _ _ _ _ _ _ _ _ _ _ _ _ _ _ _ _ _ _ _ _ _ _ _ _ _ _ _ _ _ _ _ _ _ _ _ _ _ _ _ _ _ _ _ _ _ _ _ _ _ _ _ _ _ _ _ _ _ _ _ _ _ _ _ _ _ _ _ _ _ _ _ _ _ _ _ _ _ _ _ _ _ _ _ _ _ _ _ _ _ _ _ _ _ _ _ _ _ _ _ _ _ _ _ _ _ _ _ _ _ _ _ _ _ _ _ _ _ _ _ _ _ _ _ _ _ _ _ _ _ _ _ _ _ _ _ _ _ _ _ _ _ _ _ _ _ _ _ _ _ _ _ _ _ _ _ _ _ _ _ _ _ _ _ _ _ _ _ _ _ _ _ _ _ _ _ _ _ _ _ _ _ _ _ _ _ _ _ _ _ _ _ _ _ _ _ _ _ _ _ _ _ _ _ _ _ _ _ _ _ _ _ _ _ _ _ _ _ _ _ _ _ _ _ _ _ _ _ _ _ _ _ _ _ _ _ _ _ _ _ _ _ _ _ _ _ _ _ _ _ _ _ _ _ _ _ _ _ _ _ _ _ _ _ _ _ _ _ _ _ _ _ _ _ _ _ _ _ _ wr (K0.out.next HI.out))
    | true =>
      by_cases hlt : k < n2
      · have HM := Lib.hid (show n2 = m2 from (HP.out (HT.out rfl).1).2.1)
        obtain ⟨y1, hy1⟩ : ∃ y, t.vl[k]? = some y := ⟨_, List.getElem?_eq_getElem (by rw [← LA.out]; exact hlt)⟩
        obtain ⟨y2, hy2⟩ : ∃ y, tB.vl[k]? = some y := ⟨_, List.getElem?_eq_getElem (by rw [← LB.out, ← HM.out]; exact hlt)⟩
        have o5 := K0.out.s.o7.o2
        have o6 := K0.out.o8.o2
        rw [LA.out] at o5
        rw [LB.out] at o6
        obtain ⟨e1, g1, -, -, R1⟩ := Own.elem vr_len o5 hy1
        obtain ⟨e2, g2, -, -, R2⟩ := Own.elem vr_len o6 hy2
        subst g1
        subst g2
        clear o5 o6
        obtain ⟨rr, hrr⟩ : ∃ rr, rr = eqB y1 y2 := ⟨_, rfl⟩
        have R1 := Lib.hid (show ∀ W, Below wr.heap.size wr W → W.rangeAt e1 (k * 3) (vrC y1) from fun W hW => R1 W (HI.out.trans (hW.mono HI.out.size)))
        have R2 := Lib.hid (show ∀ W, Below wr.heap.size wr W → W.rangeAt e2 (k * 3) (vrC y2) from fun W hW => R2 W (HI.out.trans (hW.mono HI.out.size)))
        have EQ := Lib.hid (show ∀ W, (Op.equalIn 10000 54 (vrV y1) (vrV y2)).run Try.prog W = .ok rr W from fun W => by rw [hrr]; exact equal_vr y1 y2 W)
        have CC := Lib.hid (show ∀ W, Below wr.heap.size wr W → W.cell? ⟨p7, 7, none⟩ = some (.slice (some ⟨e1, 0, none⟩) n2 d2) ∧ W.cell? ⟨p8, 7, none⟩ = some (.slice (some ⟨e2, 0, none⟩) n2 h2) from fun W hW => ⟨C7.out W (HI.out.trans (hW.mono HI.out.size)), by rw [HM.out]; exact C8.out W (HI.out.trans (hW.mono HI.out.size))⟩)
        have HY1 := Lib.hid hy1
        have HY2 := Lib.hid hy2
        have HRR := Lib.hid hrr
        have hkc : k ≤ d2 := by have := CA.out.1; omega
        have hkd : k ≤ h2 := by have := CB.out.1; have := HM.out; omega
        have hnc : n2 ≤ d2 := CA.out.1
        have hnd : n2 ≤ h2 := by have := CB.out.1; have := HM.out; omega
        clear hy1 hy2 hrr
        go_upto_region 13 with fail
        refine wp_region_quiet (C := Below wr.heap.size wr) (by kernel_rfl) (by kernel_rfl) (Below.refl _ _).drew ?_
        (refine q_val (v := .pointer (some ⟨p7, 7, none⟩)) (by rfl) ?_ ?_; (· (intro w hC; go_simp; try with_reducible rfl)); (try simp only [Act.put, List.getElem_toArray, List.getElem_cons_succ, List.getElem_cons_zero, List.setIfInBounds_toArray, List.set_cons_zero, List.set_cons_succ]))
        (refine q_val (v := .slice (some ⟨e1, 0, none⟩) n2 d2) (by rfl) ?_ ?_; (· (intro w hC; have q := (CC.out w hC).1; go_simp; try with_reducible rfl)); (try simp only [Act.put, List.getElem_toArray, List.getElem_cons_succ, List.getElem_cons_zero, List.setIfInBounds_toArray, List.set_cons_zero, List.set_cons_succ]))
        (refine q_val (v := .int .i64 (k : Nat)) (by rfl) ?_ ?_; (· (intro w hC; go_simp; try with_reducible rfl)); (try simp only [Act.put, List.getElem_toArray, List.getElem_cons_succ, List.getElem_cons_zero, List.setIfInBounds_toArray, List.set_cons_zero, List.set_cons_succ]))
        (refine q_val (v := .pointer (some ⟨e1, k * 3, none⟩)) (by rfl) ?_ ?_; (· (intro w hC; go_simp; try with_reducible rfl)); (try simp only [Act.put, List.getElem_toArray, List.getElem_cons_succ, List.getElem_cons_zero, List.setIfInBounds_toArray, List.set_cons_zero, List.set_cons_succ]))
        (refine q_val (v := vrV y1) (by rfl) (fun w hC => run_loadRange 54 _ rfl e1 (k * 3) rfl (vrA y1) _ (R1.out w hC) Try.underlying54 rfl (vr_info y1)) ?_; (try simp only [Act.put, List.getElem_toArray, List.getElem_cons_succ, List.getElem_cons_zero, List.setIfInBounds_toArray, List.set_cons_zero, List.set_cons_succ]))
        (refine q_val (v := .pointer (some ⟨p8, 7, none⟩)) (by rfl) ?_ ?_; (· (intro w hC; go_simp; try with_reducible rfl)); (try simp only [Act.put, List.getElem_toArray, List.getElem_cons_succ, List.getElem_cons_zero, List.setIfInBounds_toArray, List.set_cons_zero, List.set_cons_succ]))
        (refine q_val (v := .slice (some ⟨e2, 0, none⟩) n2 h2) (by rfl) ?_ ?_; (· (intro w hC; have q := (CC.out w hC).2; go_simp; try with_reducible rfl)); (try simp only [Act.put, List.getElem_toArray, List.getElem_cons_succ, List.getElem_cons_zero, List.setIfInBounds_toArray, List.set_cons_zero, List.set_cons_succ]))
        (refine q_val (v := .int .i64 (k : Nat)) (by rfl) ?_ ?_; (· (intro w hC; go_simp; try with_reducible rfl)); (try simp only [Act.put, List.getElem_toArray, List.getElem_cons_succ, List.getElem_cons_zero, List.setIfInBounds_toArray, List.set_cons_zero, List.set_cons_succ]))
        (refine q_val (v := .pointer (some ⟨e2, k * 3, none⟩)) (by rfl) ?_ ?_; (· (intro w hC; go_simp; try with_reducible rfl)); (try simp only [Act.put, List.getElem_toArray, List.getElem_cons_succ, List.getElem_cons_zero, List.setIfInBounds_toArray, List.set_cons_zero, List.set_cons_succ]))
        (refine q_val (v := vrV y2) (by rfl) (fun w hC => run_loadRange 54 _ rfl e2 (k * 3) rfl (vrA y2) _ (R2.out w hC) Try.underlying54 rfl (vr_info y2)) ?_; (try simp only [Act.put, List.getElem_toArray, List.getElem_cons_succ, List.getElem_cons_zero, List.setIfInBounds_toArray, List.set_cons_zero, List.set_cons_succ]))
        (refine q_val (v := .bool rr) (by rfl) (fun w hC => by have q := EQ.out; go_simp) ?_; (try simp only [Act.put, List.getElem_toArray, List.getElem_cons_succ, List.getElem_cons_zero, List.setIfInBounds_toArray, List.set_cons_zero, List.set_cons_succ]))
        (refine q_val (v := .bool rr) (by rfl) ?_ ?_; (· (intro w hC; go_simp; try with_reducible rfl)); (try simp only [Act.put, List.getElem_toArray, List.getElem_cons_succ, List.getElem_cons_zero, List.setIfInBounds_toArray, List.set_cons_zero, List.set_cons_succ]))
        refine wpQuiet_nil ?_
        intro w5 hC5
        have K5 := Lib.hid (show Below wj.heap.size wj w5 from HI.out.trans (hC5.mono HI.out.size))
        clear hC5
        go_wp2_with fail
        go_roundw
        case rel =>
          refine ⟨k + 1, rr, by omega, by go_num, rfl, fun h => ⟨(HT.out rfl).1, fun q hq => ?_⟩, fun h => ?_, K5.out⟩
          · rcases Nat.lt_or_ge q k with c | c
            · exact (HT.out rfl).2 q c
            · obtain rfl : q = k := by omega
              rw [HY1.out, HY2.out, eqB_iff.1 (HRR.out.symm.trans h)]
          · rw [lists_ne HY1.out HY2.out (HRR.out.symm.trans h), Bool.and_false]
        case measure => simp [intOf]; omega
      · have hk2 : k = n2 := by omega
        have NR := Lib.hid (show (true && (eqB t.st tB.st && eqB t.fd tB.fd)) = sameB t tB by
          have h := HR.out
          have h1 := (HT.out rfl).1
          have h2 : eqB t.vl tB.vl = true := lists_eq LA.out.symm (by rw [← LB.out]; exact ((HP.out h1).2.1).symm) (fun q hq => (HT.out rfl).2 q (by omega))
          rw [h1, h2] at h
          simpa using h)
        have HP2 := Lib.hid (HP.out (HT.out rfl).1)
        go_wp2_with fail
        exact HKX.out _ _ (sl3 w0 x A7 A8 A9 g p7 p8 p9 kk t tB z1 n1 c1 z2 n2 c2 z3 n3 c3 z4 n4 c4 a1 d1 b1 m1 h1 a2 d2 b2 m2 h2 a3 d3 b3 m3 h3 a4 d4 b4 m4 h4 HH q8 true (fun _ => HP2.out) NR.out _ _ _ _ _ _ _ _ _ _ _ _ _ _ _ _ _ _ _ _ _ _ _ _ _ _ _ _ _ _ _ _ _ _ _ _ _ _ _ _ _ _ _ _ _ _ _ _ _ _ _ _ _ _ _ _ _ _ _ _ _ _ _ _ _ _ _ _ _ _ _ _ _ _ _ _ _ _ _ _ _ _ _ _ _ _ _ _ _ _ _ _ _ _ _ _ _ _ _ _ _ _ _ _ _ _ _ _ _ _ _ _ _ _ _ _ _ _ _ _ _ _ _ _ _ _ _ _ _ _ _ _ _ _ _ _ _ _ _ _ _ _ _ _ _ _ _ _ _ _ _ _ _ _ _ _ _ _ _ _ _ _ _ _ _ _ _ _ _ _ _ _ _ _ _ _ _ _ _ _ _ _ _ _ _ _ _ _ _ _ _ _ _ _ _ _ _ _ _ _ _ _ _ _ _ _ _ _ _ _ _ _ _ _ _ _ _ _ _ _ _ _ _ _ _ _ _ _ _ _ _ _ _ _ _ _ _ _ _ _ _ _ _ _ _ _ _ _ _ _ _ _ _ _ _ _ _ _ _ _ _ _ _ _ _ _ _ _ _ _ _ _ _ _ _ _ _ _ _ _ _ _ _ _ _ _ _ _ _ _ _ _ _ _ _ _ _ _ _ _ _ _ _ wr (K0.out.next HI.out))
end Go.Proofs.Ytpbdamnlfpfclaa
