/- RecordSame: are both the same: what Same says. -/
import Derived.Test.YtpbdamnlfpfclaaSm1
namespace Go.Proofs.Ytpbdamnlfpfclaa
open Go.RowKit
attribute [local irreducible] wpQuiet
set_option linter.unusedSimpArgs false
set_option linter.unusedVariables false

/-- The world ahead of the changes: the other state is there, too. -/
structure S22 (w0 : World) (x A7 A8 A9 : Array Value) (g p7 p8 p9 : Nat) (t tB : St) (v1 v2 v3 v4 : Value) (z1 : Option Addr) (n1 c1 : Nat) (z2 : Option Addr) (n2 c2 : Nat) (z3 : Option Addr) (n3 c3 : Nat) (z4 : Option Addr) (n4 c4 : Nat) (u1 u2 u3 u4 : Value) (w : World) : Prop where
  s : S41 w0 x A7 A9 g p7 p9 t v1 v2 v3 v4 z1 n1 c1 z2 n2 c2 z3 n3 c3 z4 n4 c4 t w
  k8 : Blk w p8 A8 41
  o8 : OwS w 0 tB u1 u2 u3 u4
theorem S22.next {w0 w w' : World} {x A7 A8 A9 : Array Value} {g p7 p8 p9 : Nat} {t tB : St} {v1 v2 v3 v4 : Value} {z1 : Option Addr} {n1 c1 : Nat} {z2 : Option Addr} {n2 c2 : Nat} {z3 : Option Addr} {n3 c3 : Nat} {z4 : Option Addr} {n4 c4 : Nat} {u1 u2 u3 u4 : Value} (h : S22 w0 x A7 A8 A9 g p7 p8 p9 t tB v1 v2 v3 v4 z1 n1 c1 z2 n2 c2 z3 n3 c3 z4 n4 c4 u1 u2 u3 u4 w) (hb : Below w.heap.size w w') : S22 w0 x A7 A8 A9 g p7 p8 p9 t tB v1 v2 v3 v4 z1 n1 c1 z2 n2 c2 z3 n3 c3 z4 n4 c4 u1 u2 u3 u4 w' :=
  ⟨h.s.next hb, h.k8.below hb h.k8.lt, h.o8.next hb⟩
set_option maxRecDepth 100000 in
set_option maxHeartbeats 16000000 in
theorem sm0 (w0 : World) (x A7 A9 : Array Value) (g p7 p9 kk : Nat) (t : St) (v1 v2 v3 v4 : Value) (z1 : Option Addr) (n1 c1 : Nat) (z2 : Option Addr) (n2 c2 : Nat) (z3 : Option Addr) (n3 c3 : Nat) (z4 : Option Addr) (n4 c4 : Nat) (HH : Hid (SmH w0 x A7 g p7 p9 kk t v1 v2 v3 v4 z1 n1 c1 z2 n2 c2 z3 n3 c3 z4 n4 c4)) (A8 : Array Value) (p8 : Nat) (tB : St) (u1 u2 u3 u4 : Value) (q8 : A8 = stA tB u1 u2 u3 u4) (r : Bool) (HRC : r = sameB t tB) (f0 f1 f4 f5 f6 f11 f12 f13 f14 f15 f16 f17 f18 f19 f20 f21 f22 f23 f24 f25 f26 f27 f28 f29 f30 f31 f32 f33 f34 f35 f36 f37 f38 f39 f40 f41 f42 f43 f44 f45 f46 f47 f48 f49 f50 f51 f52 f53 f54 f55 f56 f57 f58 f59 f60 f61 f62 f63 f64 f65 f66 f67 f68 f69 f70 f71 f72 f73 f74 f75 f76 f77 f78 f79 f80 f81 f82 f83 f84 f85 f86 f87 f88 f89 f90 f91 f92 f93 f94 f95 f96 f97 f98 f99 f100 f101 f102 f103 f104 f105 f106 f107 f108 f109 f110 f111 f112 f113 f114 f115 f116 f117 f118 f119 f120 f121 f122 f123 f124 f125 f126 f127 f128 f129 f130 f131 f132 f133 f134 f135 f136 f137 f138 f139 f140 f141 f142 f143 f144 f145 f146 f147 f148 f149 f150 f151 f152 f153 f154 f155 f156 f157 f158 f159 f160 f161 f162 f163 f164 f165 f166 f167 f168 f169 f170 f171 f172 f173 f174 f175 f176 f177 f178 f179 f180 f181 f182 f183 f184 f185 f186 f187 f188 f189 f190 f191 f192 f193 f194 f195 f196 f197 f198 f199 f200 f201 f202 f203 f204 f205 f206 f207 f208 f209 f210 f211 f212 f213 f214 f215 f216 f217 f218 f219 f220 f221 f222 f223 f224 f225 f226 f227 f228 f229 f230 f231 f232 f233 f234 f235 f236 f237 f238 f239 f240 f241 f242 f243 f244 f245 f246 f247 f248 f249 f250 f251 f252 f253 f254 f255 f256 f257 f258 f259 f260 f261 f262 f263 f264 f265 f266 f267 f268 f269 f270 f271 f272 f273 f274 f275 f276 f277 f278 f279 f280 f281 f282 f283 f284 f285 f286 f287 f288 f289 f290 f291 f292 f293 f294 f295 f296 f297 f298 f299 f300 f301 f302 f303 f304 f305 f306 f307 f308 : Value) (wj : World) (KC : S22 w0 x A7 A8 A9 g p7 p8 p9 t tB v1 v2 v3 v4 z1 n1 c1 z2 n2 c2 z3 n3 c3 z4 n4 c4 u1 u2 u3 u4 wj) :
    Code.wp Try.prog (tail4 22) (bodyPost Try.prog Try.f4 fun e w' => e = .returned (.bool true) ∧ Below w0.heap.size w0 w') { tmps := #[f0, f1, .int .u8 (kk : Nat), .pointer (some ⟨g, 0, none⟩), f4, f5, f6, .pointer (some ⟨p7, 0, none⟩), .pointer (some ⟨p8, 0, none⟩), .pointer (some ⟨p9, 0, none⟩), .bool r, f11, f12, f13, f14, f15, f16, f17, f18, f19, f20, f21, f22, f23, f24, f25, f26, f27, f28, f29, f30, f31, f32, f33, f34, f35, f36, f37, f38, f39, f40, f41, f42, f43, f44, f45, f46, f47, f48, f49, f50, f51, f52, f53, f54, f55, f56, f57, f58, f59, f60, f61, f62, f63, f64, f65, f66, f67, f68, f69, f70, f71, f72, f73, f74, f75, f76, f77, f78, f79, f80, f81, f82, f83, f84, f85, f86, f87, f88, f89, f90, f91, f92, f93, f94, f95, f96, f97, f98, f99, f100, f101, f102, f103, f104, f105, f106, f107, f108, f109, f110, f111, f112, f113, f114, f115, f116, f117, f118, f119, f120, f121, f122, f123, f124, f125, f126, f127, f128, f129, f130, f131, f132, f133, f134, f135, f136, f137, f138, f139, f140, f141, f142, f143, f144, f145, f146, f147, f148, f149, f150, f151, f152, f153, f154, f155, f156, f157, f158, f159, f160, f161, f162, f163, f164, f165, f166, f167, f168, f169, f170, f171, f172, f173, f174, f175, f176, f177, f178, f179, f180, f181, f182, f183, f184, f185, f186, f187, f188, f189, f190, f191, f192, f193, f194, f195, f196, f197, f198, f199, f200, f201, f202, f203, f204, f205, f206, f207, f208, f209, f210, f211, f212, f213, f214, f215, f216, f217, f218, f219, f220, f221, f222, f223, f224, f225, f226, f227, f228, f229, f230, f231, f232, f233, f234, f235, f236, f237, f238, f239, f240, f241, f242, f243, f244, f245, f246, f247, f248, f249, f250, f251, f252, f253, f254, f255, f256, f257, f258, f259, f260, f261, f262, f263, f264, f265, f266, f267, f268, f269, f270, f271, f272, f273, f274, f275, f276, f277, f278, f279, f280, f281, f282, f283, f284, f285, f286, f287, f288, f289, f290, f291, f292, f293, f294, f295, f296, f297, f298, f299, f300, f301, f302, f303, f304, f305, f306, f307, f308], defers := [] } wj := by
  have K0 := Lib.hid KC
  have HR := Lib.hid HRC
  have I8 := Lib.hid (show (Try.prog.info? 41).map (·.size) = some A8.size by rw [q8]; exact st_info _ _ _ _ _)
  clear KC HRC
  conv => arg 2; whnf
  conv => arg 4; zeta
  go_upto_region 22 with fail
  rename_i K2 hK2 K1 hK1
  have HK2 := Lib.hid hK2
  clear hK2
  refine wp_region_lit ?_
  refine wpList_val (.agg A7) (by rfl) (run_loadVar_of 41 _ rfl p7 rfl 41 A7 _ K0.out.s.k7 Try.underlying41 rfl HH.out.i7) ?_
  (try simp only [Act.put, List.getElem_toArray, List.getElem_cons_succ, List.getElem_cons_zero, List.setIfInBounds_toArray, List.set_cons_zero, List.set_cons_succ])
  refine wpList_val (.agg A8) (by rfl) (run_loadVar_of 41 _ rfl p8 rfl 41 A8 _ K0.out.k8 Try.underlying41 rfl I8.out) ?_
  (try simp only [Act.put, List.getElem_toArray, List.getElem_cons_succ, List.getElem_cons_zero, List.setIfInBounds_toArray, List.set_cons_zero, List.set_cons_succ])
  refine wpList_callx 10 #[.agg A7, .agg A8] (fun v w' => v = .bool r ∧ Below wj.heap.size wj w') (by rfl) (by go_simp) ((show Calls Try.prog 10 #[.agg A7, .agg A8] wj (fun e w' => e = .returned (.bool r) ∧ Below wj.heap.size wj w') from by have h := same_is (K0.out.s.is7 HH.out.q7) (show IsSt wj tB (.agg A8) from ⟨0, _, _, _, _, by rw [q8], K0.out.o8⟩); rwa [← HR.out] at h).mono fun e w' ⟨q1, q2⟩ => ⟨_, q1, rfl, q2⟩) ?_
  rintro v wk ⟨rfl, hb⟩
  have KA := Lib.hid (K0.out.next hb)
  clear hb
  (try simp only [Act.put, List.getElem_toArray, List.getElem_cons_succ, List.getElem_cons_zero, List.setIfInBounds_toArray, List.set_cons_zero, List.set_cons_succ])
  refine wpList_val (.bool r) (by rfl) (by go_simp) ?_
  (try simp only [Act.put, List.getElem_toArray, List.getElem_cons_succ, List.getElem_cons_zero, List.setIfInBounds_toArray, List.set_cons_zero, List.set_cons_succ])
  refine wpList_val (.bool false) (by rfl) (by cases r <;> go_simp) ?_
  (try simp only [Act.put, List.getElem_toArray, List.getElem_cons_succ, List.getElem_cons_zero, List.setIfInBounds_toArray, List.set_cons_zero, List.set_cons_succ])
  refine wpList_val (.bool false) (by rfl) (by go_simp) ?_
  (try simp only [Act.put, List.getElem_toArray, List.getElem_cons_succ, List.getElem_cons_zero, List.setIfInBounds_toArray, List.set_cons_zero, List.set_cons_succ])
  refine wpList_val (.agg A8) (by rfl) (run_loadVar_of 41 _ rfl p8 rfl 41 A8 _ KA.out.k8 Try.underlying41 rfl I8.out) ?_
  (try simp only [Act.put, List.getElem_toArray, List.getElem_cons_succ, List.getElem_cons_zero, List.setIfInBounds_toArray, List.set_cons_zero, List.set_cons_succ])
  refine wpList_val (.agg A7) (by rfl) (run_loadVar_of 41 _ rfl p7 rfl 41 A7 _ KA.out.s.k7 Try.underlying41 rfl HH.out.i7) ?_
  (try simp only [Act.put, List.getElem_toArray, List.getElem_cons_succ, List.getElem_cons_zero, List.setIfInBounds_toArray, List.set_cons_zero, List.set_cons_succ])
  refine wpList_callx 10 #[.agg A8, .agg A7] (fun v w' => v = .bool r ∧ Below wk.heap.size wk w') (by rfl) (by go_simp) ((show Calls Try.prog 10 #[.agg A8, .agg A7] wk (fun e w' => e = .returned (.bool r) ∧ Below wk.heap.size wk w') from by have h := same_is (show IsSt wk tB (.agg A8) from ⟨0, _, _, _, _, by rw [q8], KA.out.o8⟩) (KA.out.s.is7 HH.out.q7); rwa [sameB_comm, ← HR.out] at h).mono fun e w' ⟨q1, q2⟩ => ⟨_, q1, rfl, q2⟩) ?_
  rintro v wl ⟨rfl, hb⟩
  have KB := Lib.hid (KA.out.next hb)
  clear hb
  (try simp only [Act.put, List.getElem_toArray, List.getElem_cons_succ, List.getElem_cons_zero, List.setIfInBounds_toArray, List.set_cons_zero, List.set_cons_succ])
  refine wpList_val (.bool r) (by rfl) (by go_simp) ?_
  (try simp only [Act.put, List.getElem_toArray, List.getElem_cons_succ, List.getElem_cons_zero, List.setIfInBounds_toArray, List.set_cons_zero, List.set_cons_succ])
  refine wpList_val (.bool false) (by rfl) (by cases r <;> go_simp) ?_
  (try simp only [Act.put, List.getElem_toArray, List.getElem_cons_succ, List.getElem_cons_zero, List.setIfInBounds_toArray, List.set_cons_zero, List.set_cons_succ])
  refine wpList_val (.bool false) (by rfl) (by go_simp) ?_
  (try simp only [Act.put, List.getElem_toArray, List.getElem_cons_succ, List.getElem_cons_zero, List.setIfInBounds_toArray, List.set_cons_zero, List.set_cons_succ])
  refine wpList_val (.bool false) (by rfl) (by go_simp) ?_
  (try simp only [Act.put, List.getElem_toArray, List.getElem_cons_succ, List.getElem_cons_zero, List.setIfInBounds_toArray, List.set_cons_zero, List.set_cons_succ])
  refine wpList_val (.agg A7) (by rfl) (run_loadVar_of 41 _ rfl p7 rfl 41 A7 _ KB.out.s.k7 Try.underlying41 rfl HH.out.i7) ?_
  (try simp only [Act.put, List.getElem_toArray, List.getElem_cons_succ, List.getElem_cons_zero, List.setIfInBounds_toArray, List.set_cons_zero, List.set_cons_succ])
  refine wpList_val (.agg A9) (by rfl) (run_loadVar_of 41 _ rfl p9 rfl 41 A9 _ KB.out.s.k9 Try.underlying41 rfl KB.out.s.i9) ?_
  (try simp only [Act.put, List.getElem_toArray, List.getElem_cons_succ, List.getElem_cons_zero, List.setIfInBounds_toArray, List.set_cons_zero, List.set_cons_succ])
  refine wpList_callx 10 #[.agg A7, .agg A9] (fun v w' => v = .bool true ∧ Below wl.heap.size wl w') (by rfl) (by go_simp) ((show Calls Try.prog 10 #[.agg A7, .agg A9] wl (fun e w' => e = .returned (.bool true) ∧ Below wl.heap.size wl w') from by have h := same_is (KB.out.s.is7 HH.out.q7) KB.out.s.is9; rwa [sameB_self] at h).mono fun e w' ⟨q1, q2⟩ => ⟨_, q1, rfl, q2⟩) ?_
  rintro v wm ⟨rfl, hb⟩
  have KC := Lib.hid (KB.out.next hb)
  clear hb
  (try simp only [Act.put, List.getElem_toArray, List.getElem_cons_succ, List.getElem_cons_zero, List.setIfInBounds_toArray, List.set_cons_zero, List.set_cons_succ])
  refine wpList_val (.bool false) (by rfl) (by go_simp) ?_
  (try simp only [Act.put, List.getElem_toArray, List.getElem_cons_succ, List.getElem_cons_zero, List.setIfInBounds_toArray, List.set_cons_zero, List.set_cons_succ])
  refine wpList_val (.bool false) (by rfl) (by go_simp) ?_
  (try simp only [Act.put, List.getElem_toArray, List.getElem_cons_succ, List.getElem_cons_zero, List.setIfInBounds_toArray, List.set_cons_zero, List.set_cons_succ])
  refine wpList_nil ?_
  go_wp2_with fail
  refine HK2.out _ _ ?_
  go_upto_region 24 with fail
  rename_i K3 hK3
  have HK3 := Lib.hid hK3
  clear hK3
  go_wp2_with fail
  exact HK3.out _ _ (sm1 w0 x A7 A9 g p7 p9 kk t v1 v2 v3 v4 z1 n1 c1 z2 n2 c2 z3 n3 c3 z4 n4 c4 HH t false (by rw [sameB_self]; rfl) (fun h => Bool.noConfusion h) (fun _ => rfl) _ _ _ _ _ _ _ _ _ _ _ _ _ _ _ _ _ _ _ _ _ _ _ _ _ _ _ _ _ _ _ _ _ _ _ _ _ _ _ _ _ _ _ _ _ _ _ _ _ _ _ _ _ _ _ _ _ _ _ _ _ _ _ _ _ _ _ _ _ _ _ _ _ _ _ _ _ _ _ _ _ _ _ _ _ _ _ _ _ _ _ _ _ _ _ _ _ _ _ _ _ _ _ _ _ _ _ _ _ _ _ _ _ _ _ _ _ _ _ _ _ _ _ _ _ _ _ _ _ _ _ _ _ _ _ _ _ _ _ _ _ _ _ _ _ _ _ _ _ _ _ _ _ _ _ _ _ _ _ _ _ _ _ _ _ _ _ _ _ _ _ _ _ _ _ _ _ _ _ _ _ _ _ _ _ _ _ _ _ _ _ _ _ _ _ _ _ _ _ _ _ _ _ _ _ _ _ _ _ _ _ _ _ _ _ _ _ _ _ _ _ _ _ _ _ _ _ _ _ _ _ _ _ _ _ _ _ _ _ _ _ _ _ _ _ _ _ _ _ _ _ _ _ _ _ _ _ _ _ _ _ _ _ _ _ _ _ _ _ _ _ _ _ _ _ _ _ _ _ _ _ _ _ _ _ _ _ _ _ _ _ _ _ _ _ _ _ _ _ _ _ _ _ _ wm KC.out.s)
end Go.Proofs.Ytpbdamnlfpfclaa
