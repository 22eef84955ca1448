import Derived.Test.YteeinlbhcdpnnaaDoorG4
import Derived.Test.YteeinlbhcdpnnaaDoorG2
import Derived.Test.YteeinlbhcdpnnaaDoorG25
set_option linter.unusedSimpArgs false
set_option linter.unusedVariables false
namespace Go.Proofs.YteeinlbhcdpnnaaDoor
section
open Go.RowKit
attribute [local irreducible] wpQuiet wpList
theorem Kx.app3 {w0 w w' : World} {l : List (Nat × Array Value × TypeId)} {A : Bd} {α : Type} {B size : Nat} {e : TypeId} {enc : α → List Value} {cur vS vR : Value} {L : List α} {x : α} (K : Kx w0 l (A.and (bdO B e size enc cur L)) w) (hd : ∀ k, A.f k → cur.ownBlock ≠ some k) (h : ApW w B e size enc cur L x true true vS vR w') : Kx w0 l (A.and (bdO B e size enc vR (L ++ [x]))) w' ∧ ∀ k, A.f k → vR.ownBlock ≠ some k := by
 have hm : Mv (fun k => cur.ownBlock = some k) w w' := Mv.grown h.g
 have hb : ∀ k, vR.ownBlock = some k → cur.ownBlock = some k ∨ w.heap.size ≤ k := h.pb rfl
 have ho : Own w B e size enc cur L := K.a.2
 refine ⟨⟨⟨fun z hz => (K.kb.all z hz).fr hm (fun q => K.ap z hz (.inr q)), ?_, K.kb.new, K.kb.nd⟩, ⟨A.mv K.a.1 hm (fun k hf q => hd k hf q), h.pr rfl⟩, fun z hz hf => ?_, fun k hf => ?_⟩, fun k hf q => ?_⟩
 ·
  exact grownBelow K.below h.g (fun q hq => K.nw q (.inr hq)) K.below.size
 ·
  rcases hf with hf | hf
  ·
   exact K.ap z hz (.inl hf)
  ·
   rcases hb _ hf with q | q
   ·
    exact K.ap z hz (.inr q)
   ·
    have := (K.kb.all z hz).lt; omega
 ·
  rcases hf with hf | hf
  ·
   exact K.nw k (.inl hf)
  ·
   rcases hb _ hf with q | q
   ·
    exact K.nw k (.inr q)
   ·
    exact Nat.le_trans K.below.size q
 ·
  rcases hb _ q with q | q
  ·
   exact hd k hf q
  ·
   have := A.lt K.a.1 hf; omega
theorem div_next (z j : Nat) : z / 2 ^ j / 2 = z / 2 ^ (j + 1) := by rw [Nat.div_div_eq_div_mul, ← Nat.pow_succ]
theorem vs_outs {L : Nat → Bool} : ∀ (K : List Nat) {A B : List Value}, K.foldl (fun l k => l.set k undef) A = K.foldl (fun l k => l.set k undef) B → (∀ k ∈ K, L k = false) → ∀ j, L j = true → vsOf A j = vsOf B j
 | [], A, B, h, _, j, _ => by rw [show A = B from h]
 | k :: K, A, B, h, hL, j, hj => by
  have q := vs_outs K (A := A.set k undef) (B := B.set k undef) h (fun x hx => hL x (List.mem_cons_of_mem _ hx)) j hj
  have hne : j ≠ k := fun e => by rw [e, hL k (List.mem_cons_self ..)] at hj; cases hj
  have e : ∀ X : List Value, vsOf (X.set k undef) j = vsOf X j := fun X => by
   unfold vsOf
   rw [Array.getD_eq_getD_getElem?, Array.getD_eq_getD_getElem?]
   simp [List.getElem?_set_ne (Ne.symm hne)]
  rw [e, e] at q
  exact q
structure RlAS (x : Sg) (pl : List Pg) (a : Option Addr) (n m g2 off n2 m2 k p q : Nat) (b1 b10 b11 b31 b61 : Nat) (s : St) (nn mm g k2 cN iN : Nat) (r2 r3 r4 tv fv : Value) (y : Ac) (t0 : TS) (um p1 p2 p3 p4 : Value) (x2 : Po) (u : Vc) (on hd : Bool) (qa : Option Addr) (ra : Nat) (f3 f4 f13 f14 f15 f16 f17 f18 f19 f36 f37 f49 f50 f51 f52 f53 f54 f55 f56 f57 f58 f59 f60 f61 f62 f63 f64 f65 f66 f67 f68 f69 f70 f71 f72 f73 f74 f75 f76 f77 f78 f79 f80 f86 f87 f110 f111 f112 f113 f114 f115 f116 f117 f118 f119 f120 f121 f122 f123 f124 f125 f126 f127 f128 f129 f130 f131 f132 f133 f134 f135 f136 f137 f138 f139 f140 f141 f142 f143 f144 f145 f146 f147 f148 f149 f150 f151 f152 f153 f154 f155 f156 f157 f158 f159 f160 f161 f162 f163 f164 f165 f166 f167 f168 f169 f170 f171 f172 f173 f174 f175 f176 f177 f178 f179 f180 f181 f182 f183 f184 f185 f186 f187 f188 f189 f190 f191 f192 f193 f194 f195 f196 f197 f198 f199 f200 f201 f202 f203 f204 f205 f206 f207 : Value) (L : Nat → Bool) (v93 v94 v95 v96 v97 v98 v99 v100 v101 v102 v103 v104 v105 v106 v107 v108 v109 : Value) : Prop where
 e93 : L 0 = true → v93 = .slice qa k2 ra
 e94 : L 1 = true → v94 = .agg (poA { x2 with p3 := (cN : Nat), p13 := (u.r : Nat), p14 := (u.c : Nat), p15 := (u.b : Nat), p16 := (u.p : Nat) })
 e95 : L 2 = true → v95 = .bool on
 e96 : L 3 = true → v96 = .pointer (some ⟨b61, 12, none⟩)
 e97 : L 4 = true → v97 = .int .i64 x2.p12
 e98 : L 5 = true → v98 = .bool hd
 e99 : L 6 = true → v99 = .pointer (some ⟨b61, 13, none⟩)
 e100 : L 7 = true → v100 = .agg (vcA u)
 e101 : L 8 = true → v101 = .pointer (some ⟨b61, 3, none⟩)
 e102 : L 9 = true → v102 = .int .u32 (cN : Nat)
 e103 : L 10 = true → v103 = .agg (poA { x2 with p3 := (cN : Nat), p13 := (u.r : Nat), p14 := (u.c : Nat), p15 := (u.b : Nat), p16 := (u.p : Nat) })
 e104 : L 11 = true → v104 = .int .i64 (k2 : Nat)
 e105 : L 12 = true → v105 = .int .i64 ((k2 : Int) + 1)
 e106 : L 13 = true → v106 = .int .u16 (iN : Nat)
 e107 : L 14 = true → v107 = .agg (rpA ⟨on, hd, u, cN, iN⟩)
abbrev RlAF (x : Sg) (pl : List Pg) (a : Option Addr) (n m g2 off n2 m2 k p q : Nat) (b1 b10 b11 b31 b61 : Nat) (s : St) (nn mm g k2 cN iN : Nat) (r2 r3 r4 tv fv : Value) (y : Ac) (t0 : TS) (um p1 p2 p3 p4 : Value) (x2 : Po) (u : Vc) (on hd : Bool) (qa : Option Addr) (ra : Nat) (f3 f4 f13 f14 f15 f16 f17 f18 f19 f36 f37 f49 f50 f51 f52 f53 f54 f55 f56 f57 f58 f59 f60 f61 f62 f63 f64 f65 f66 f67 f68 f69 f70 f71 f72 f73 f74 f75 f76 f77 f78 f79 f80 f86 f87 f110 f111 f112 f113 f114 f115 f116 f117 f118 f119 f120 f121 f122 f123 f124 f125 f126 f127 f128 f129 f130 f131 f132 f133 f134 f135 f136 f137 f138 f139 f140 f141 f142 f143 f144 f145 f146 f147 f148 f149 f150 f151 f152 f153 f154 f155 f156 f157 f158 f159 f160 f161 f162 f163 f164 f165 f166 f167 f168 f169 f170 f171 f172 f173 f174 f175 f176 f177 f178 f179 f180 f181 f182 f183 f184 f185 f186 f187 f188 f189 f190 f191 f192 f193 f194 f195 f196 f197 f198 f199 f200 f201 f202 f203 f204 f205 f206 f207 : Value) (v93 v94 v95 v96 v97 v98 v99 v100 v101 v102 v103 v104 v105 v106 v107 v108 v109 : Value) : Act := { tmps := #[.agg (sgA x (.slice a n m)), .slice (some ⟨g2, off, none⟩) n2 m2, .pointer (some ⟨b1, 0, none⟩), f3, f4, .pointer (some ⟨b10, 0, none⟩), .pointer (some ⟨b11, 0, none⟩), .int .i64 (k : Nat), .pointer (some ⟨b31, 0, none⟩), .int .i64 (p : Nat), .slice qa k2 ra, .int .i64 (k2 : Nat), .pointer (some ⟨b61, 0, none⟩), f13, f14, f15, f16, f17, f18, f19, .bool true, .bool false, .tuple #[.agg (stA t0.s p1 p2 p3 p4), .agg #[tv, fv]], .agg (sgA x (.slice a n m)), stV (madeS x pl) um (.slice none 0 0) (.slice none 0 0) (.slice none 0 0), .tuple #[.agg (stA t0.s p1 p2 p3 p4), .agg #[tv, fv]], .agg (stA t0.s p1 p2 p3 p4), .agg (#[tv, fv]), .int .i64 (k : Nat), .slice (some ⟨g2, off, none⟩) n2 m2, .int .i64 (n2 : Nat), .bool true, .bool true, .int .i64 (k : Nat), .bool true, .bool true, f36, f37, .slice (some ⟨g2, off, none⟩) n2 m2, .int .i64 (k : Nat), .pointer (some ⟨g2, off + k * 14, none⟩), .agg (acA y), .pointer (some ⟨b31, 1, none⟩), .int .u8 (y.po : Nat), .int .u8 (p : Nat), .int .i64 (p : Nat), .pointer (some ⟨b31, 0, none⟩), .int .u8 (y.wh : Nat), .int .u8 (q : Nat), f49, f50, f51, f52, f53, f54, f55, f56, f57, f58, f59, f60, f61, f62, f63, f64, f65, f66, f67, f68, f69, f70, f71, f72, f73, f74, f75, f76, f77, f78, f79, f80, .int .i64 (k2 : Nat), .pointer (some ⟨b10, 6, none⟩), .slice (some ⟨g, 0, none⟩) nn mm, .int .i64 (nn : Nat), .bool true, f86, f87, .pointer (some ⟨b10, 6, none⟩), .slice (some ⟨g, 0, none⟩) nn mm, .int .i64 (k2 : Nat), .pointer (some ⟨g, k2 * 21, none⟩), .agg (poA { x2 with p3 := (cN : Nat), p13 := (u.r : Nat), p14 := (u.c : Nat), p15 := (u.b : Nat), p16 := (u.p : Nat) }), v93, v94, v95, v96, v97, v98, v99, v100, v101, v102, v103, v104, v105, v106, v107, v108, v109, f110, f111, f112, f113, f114, f115, f116, f117, f118, f119, f120, f121, f122, f123, f124, f125, f126, f127, f128, f129, f130, f131, f132, f133, f134, f135, f136, f137, f138, f139, f140, f141, f142, f143, f144, f145, f146, f147, f148, f149, f150, f151, f152, f153, f154, f155, f156, f157, f158, f159, f160, f161, f162, f163, f164, f165, f166, f167, f168, f169, f170, f171, f172, f173, f174, f175, f176, f177, f178, f179, f180, f181, f182, f183, f184, f185, f186, f187, f188, f189, f190, f191, f192, f193, f194, f195, f196, f197, f198, f199, f200, f201, f202, f203, f204, f205, f206, f207], defers := [] }
def RlAI (x : Sg) (pl : List Pg) (a : Option Addr) (n m g2 off n2 m2 k p q : Nat) (b1 b10 b11 b31 b61 : Nat) (s : St) (nn mm g k2 cN iN : Nat) (r2 r3 r4 tv fv : Value) (y : Ac) (t0 : TS) (um p1 p2 p3 p4 : Value) (x2 : Po) (u : Vc) (on hd : Bool) (qa : Option Addr) (ra : Nat) (f3 f4 f13 f14 f15 f16 f17 f18 f19 f36 f37 f49 f50 f51 f52 f53 f54 f55 f56 f57 f58 f59 f60 f61 f62 f63 f64 f65 f66 f67 f68 f69 f70 f71 f72 f73 f74 f75 f76 f77 f78 f79 f80 f86 f87 f110 f111 f112 f113 f114 f115 f116 f117 f118 f119 f120 f121 f122 f123 f124 f125 f126 f127 f128 f129 f130 f131 f132 f133 f134 f135 f136 f137 f138 f139 f140 f141 f142 f143 f144 f145 f146 f147 f148 f149 f150 f151 f152 f153 f154 f155 f156 f157 f158 f159 f160 f161 f162 f163 f164 f165 f166 f167 f168 f169 f170 f171 f172 f173 f174 f175 f176 f177 f178 f179 f180 f181 f182 f183 f184 f185 f186 f187 f188 f189 f190 f191 f192 f193 f194 f195 f196 f197 f198 f199 f200 f201 f202 f203 f204 f205 f206 f207 : Value) (B0 : Nat) (w1 : World) (L : Nat → Bool) (ac : Act) (w : World) : Prop :=
 ∃ v93 v94 v95 v96 v97 v98 v99 v100 v101 v102 v103 v104 v105 v106 v107 v108 v109, ac = RlAF x pl a n m g2 off n2 m2 k p q b1 b10 b11 b31 b61 s nn mm g k2 cN iN r2 r3 r4 tv fv y t0 um p1 p2 p3 p4 x2 u on hd qa ra f3 f4 f13 f14 f15 f16 f17 f18 f19 f36 f37 f49 f50 f51 f52 f53 f54 f55 f56 f57 f58 f59 f60 f61 f62 f63 f64 f65 f66 f67 f68 f69 f70 f71 f72 f73 f74 f75 f76 f77 f78 f79 f80 f86 f87 f110 f111 f112 f113 f114 f115 f116 f117 f118 f119 f120 f121 f122 f123 f124 f125 f126 f127 f128 f129 f130 f131 f132 f133 f134 f135 f136 f137 f138 f139 f140 f141 f142 f143 f144 f145 f146 f147 f148 f149 f150 f151 f152 f153 f154 f155 f156 f157 f158 f159 f160 f161 f162 f163 f164 f165 f166 f167 f168 f169 f170 f171 f172 f173 f174 f175 f176 f177 f178 f179 f180 f181 f182 f183 f184 f185 f186 f187 f188 f189 f190 f191 f192 f193 f194 f195 f196 f197 f198 f199 f200 f201 f202 f203 f204 f205 f206 f207 v93 v94 v95 v96 v97 v98 v99 v100 v101 v102 v103 v104 v105 v106 v107 v108 v109 ∧ RlAS x pl a n m g2 off n2 m2 k p q b1 b10 b11 b31 b61 s nn mm g k2 cN iN r2 r3 r4 tv fv y t0 um p1 p2 p3 p4 x2 u on hd qa ra f3 f4 f13 f14 f15 f16 f17 f18 f19 f36 f37 f49 f50 f51 f52 f53 f54 f55 f56 f57 f58 f59 f60 f61 f62 f63 f64 f65 f66 f67 f68 f69 f70 f71 f72 f73 f74 f75 f76 f77 f78 f79 f80 f86 f87 f110 f111 f112 f113 f114 f115 f116 f117 f118 f119 f120 f121 f122 f123 f124 f125 f126 f127 f128 f129 f130 f131 f132 f133 f134 f135 f136 f137 f138 f139 f140 f141 f142 f143 f144 f145 f146 f147 f148 f149 f150 f151 f152 f153 f154 f155 f156 f157 f158 f159 f160 f161 f162 f163 f164 f165 f166 f167 f168 f169 f170 f171 f172 f173 f174 f175 f176 f177 f178 f179 f180 f181 f182 f183 f184 f185 f186 f187 f188 f189 f190 f191 f192 f193 f194 f195 f196 f197 f198 f199 f200 f201 f202 f203 f204 f205 f206 f207 L v93 v94 v95 v96 v97 v98 v99 v100 v101 v102 v103 v104 v105 v106 v107 v108 v109 ∧ ApW w1 B0 76 8 rpC (.slice qa k2 ra) (rpTo s.po k2) ⟨on, hd, u, cN, iN⟩ (L 15) (L 16) v108 v109 w
set_option maxRecDepth 100000 in
set_option maxHeartbeats 8000000 in
theorem roles_law (x : Sg) (pl : List Pg) (n m : Nat) (a : Option Addr) (l : List Ac) (n2 m2 : Nat) (a2 : Option Addr) (w : World) (hrl : RolesAt w) (hl : pl.length = n) (hnm : n ≤ m ∧ m ≤ maxLen) (hr : RowsAt w a 5 pgC pl) (hx : x.ok) (hok : ∀ y ∈ pl, y.ok) (hl2 : l.length = n2) (hnm2 : n2 ≤ m2 ∧ m2 ≤ maxLen) (hr2 : RowsAt w a2 14 acC l) (hok2 : ∀ y ∈ l, y.ok) : Calls Tryd.prog 4 #[.agg (sgA x (.slice a n m)), .slice a2 n2 m2] w fun e w' => e = .returned (.bool true) ∧ Below w.heap.size w w' := by
 have HRL := Lib.hid hrl
 have HL2 := Lib.hid hl2
 have HNM2 := Lib.hid hnm2
 have HR2 := Lib.hid hr2
 have HOK2 := Lib.hid hok2
 have CM := Lib.hid (fun W (hb : Below w.heap.size w W) => made_any x pl n m a W hl hnm (hr.same hb) hx hok)
 have K := Lib.hid (Kx.start (Kb.nil w))
 clear hrl hl hnm hr hx hok hl2 hnm2 hr2 hok2
 go_enter Tryd.func4, Tryd.ntmps4
 go_upto_region 0 with fail
 refine wp_region_lit ?_
 refine kx_box K.out 25 (.tmp 0) (sgA x (.slice a n m)) rfl rfl (by rfl) (pz (h := ?_))
 intro b1 w1 K1
 refine wz1 (.bool false) (h := nz ?_)
 go_upto_region 1 with fail
 refine wp_region_lit ?_
 refine kx_call K1.out 6 #[] (.bool true) (by rfl) (by go_simp) (speaks_any w1 (HRL.out.fr (F := fun _ => False) (Mv.of_below K1.out.below) (fun e => e))) (py (h := ?_))
 intro w2 K2
 refine wz1 (.bool false) (h := nz ?_)
 go_upto_region 3 with fail
 refine lz (wz1 (.agg (sgA x (.slice a n m))) (h1 := by exact kx_all K2.out 0 rfl 25 _ rfl rfl Tryd.underlying25 rfl (sizeSg)) (h := ?_))
 refine wpList_callx4 7 #[.agg (sgA x (.slice a n m))] (fun v w5 => ∃ u, v = stV (madeS x pl) u (.slice none 0 0) (.slice none 0 0) (.slice none 0 0) ∧ Own w5 w2.heap.size 73 21 poC u (madeS x pl).po ∧ Below w2.heap.size w2 w5) (by rfl) (by go_simp) ((CM.out w2 K2.out.below).mono fun e w5 ⟨u, q1, q2, q3⟩ => ⟨_, q1, u, rfl, q2, q3⟩) ?_
 rintro v w5 ⟨um, rfl, hO, hB⟩
 (try simp only [Act.put, gA, gS, gZ, sA, sZ, sS])
 have K5 := Lib.hid (show Kx w [(b1, sgA x (.slice a n m), 25)] (bdS w2.heap.size (madeS x pl) um (.slice none 0 0) (.slice none 0 0) (.slice none 0 0)) w5 from K2.out.renew hB (made_ows hO) (fun k hk => bdS_new (made_ows hO) k hk))
 clear hO hB
 obtain ⟨t0, ht0⟩ : ∃ z, z = startM (madeS x pl) := ⟨_, rfl⟩
 have HIV0 := Lib.hid (show Iv t0.s by rw [ht0]; exact made_iv x pl)
 have HST := Lib.hid (start_any (w := w5) (s := madeS x pl) K5.out.a (HRL.out.fr (F := fun _ => False) (Mv.of_below K5.out.below) (fun e => e)) (by have := made_few x pl; omega) (made_id _ _) (beg_ok (made_ok _ _)))
 rw [← ht0] at HST
 clear ht0
 refine wpList_callx4 9 #[stV (madeS x pl) um (.slice none 0 0) (.slice none 0 0) (.slice none 0 0)] (fun v w9 => ∃ u1 u2 u3 u4 tv fv, v = .tuple #[stV t0.s u1 u2 u3 u4, .agg #[tv, fv]] ∧ Left w5 t0 u1 u2 u3 u4 tv fv w9) (by rfl) (by go_simp) (HST.out.mono fun e w9 ⟨u1, u2, u3, u4, tv, fv, q1, q2⟩ => ⟨_, q1, u1, u2, u3, u4, tv, fv, rfl, q2⟩) ?_
 rintro v w9 ⟨p1, p2, p3, p4, tv, fv, rfl, hL⟩
 (try simp only [Act.put, gA, gS, gZ, sA, sZ, sS])
 have HLL := Lib.hid hL
 have K9 := Lib.hid (show Kx w [(b1, sgA x (.slice a n m), 25)] (bdS w5.heap.size t0.s p1 p2 p3 p4) w9 from K5.out.renew hL.below hL.own (fun k hk => bdS_new hL.own k hk))
 clear hL HST
 have HS9 := Lib.hid (show (stA t0.s p1 p2 p3 p4).all (·.oneCell') = true from st_one HLL.out.own)
 have HS8 := Lib.hid (show (#[tv, fv] : Array Value).all (·.oneCell') = true by simp [HLL.out.told.oneCell, HLL.out.fl.oneCell])
 refine wz3 (.tuple #[.agg (stA t0.s p1 p2 p3 p4), .agg #[tv, fv]]) (.agg (stA t0.s p1 p2 p3 p4)) (.agg (#[tv, fv])) (h := ?_)
 refine kx_alloc K9.out 40 (nil25) rfl z41 (by rfl) (pz (h := ?_))
 intro b10 w10 K10
 refine kx_alloc K10.out 49 (nilM) rfl zO (by rfl) (pz (h := ?_))
 intro b11 w11 K11
 refine kx_row K11.out 1 rfl 40 _ _ (stA t0.s p1 p2 p3 p4) rfl rfl rfl rfl (size41) (by rfl) (HS9.out) (py (h := ?_))
 intro w12 K12
 refine kx_row K12.out 2 rfl 49 _ _ (#[tv, fv]) rfl rfl rfl rfl (sizeO) (by rfl) (HS8.out) (py (h := ?_))
 intro w13 K13
 refine wpList_nil ?_
 go_upto_region 4 with fail
 refine lz (wz1 (iV 0) (h := nz ?_))
 go_upto_region 5 with fail
 go_loopw [7] (fun i wr => ∃ (k : Nat) (s : St) (v1 v2 v3 v4 : Value) (B : Nat), k ≤ n2 ∧ k ≤ 60 ∧ i = .int .i64 k ∧ Iv s ∧ Kx w [(b1, sgA x (.slice a n m), 25), (b10, stA s v1 v2 v3 v4, 40), (b11, #[tv, fv], 49)] (bdS B s v1 v2 v3 v4) wr) (fun i _ => (60 - intOf i).toNat)
 case atStart => exact ⟨0, t0.s, p1, p2, p3, p4, _, Nat.zero_le _, Nat.zero_le _, rfl, HIV0.out, K13.out⟩
 case round =>
  obtain ⟨k, s, v1, v2, v3, v4, B, hk, hk6, rfl, hIV, hK⟩ := hrel
  have KR := Lib.hid hK
  have HK := Lib.hid hk
  have HK6 := Lib.hid hk6
  have HIV := Lib.hid hIV
  have HKB := Lib.hid (show (k : Int) ≤ 60 by omega)
  have i1 : (n2 : Int) ≤ 9223372036854775807 := by have q := HNM2.out; unfold maxLen at q; omega
  clear hK hk hk6 hIV
  by_cases hlt : k < n2
  case neg =>
   have HLT := Lib.hid hlt
   clear hlt
   go_upto_region 5 with fail
   refine lz (wz5 (iV (k : Nat)) (.slice a2 n2 m2) (iV (n2 : Nat)) (.bool false) (.bool false) (h4 := by have q := HLT.out; go_simp) (h := wk (h := wk (h := wz1 (.bool false) (h1 := by exact run_pick_no (.tmp 32) (.tmp 34) (.const (.bool false)) _ rfl rfl rfl) (h := nz ?_)))))
   go_upto_region 40 with fail
   refine lz (wz1 (.bool true) (h := nz ?_))
   go_wp2_with fail
   go_ret
   exact ⟨rfl, KR.out.below⟩
  case pos =>
   have HLT := Lib.hid hlt
   clear hlt
   by_cases h6 : k < 60
   case neg =>
    have H6 := Lib.hid h6
    clear h6
    go_upto_region 5 with fail
    refine lz (wz6 (iV (k : Nat)) (.slice a2 n2 m2) (iV (n2 : Nat)) (.bool true) (.bool true) (iV (k : Nat)) (h4 := by have q := HLT.out; go_simp) (h := wz2 (.bool false) (.bool false) (h1 := by have q := H6.out; go_simp; try omega) (h2 := by exact run_pick_yes (.tmp 32) (.tmp 34) (.const (.bool false)) _ rfl rfl rfl) (h := nz ?_)))
    go_upto_region 40 with fail
    refine lz (wz1 (.bool true) (h := nz ?_))
    go_wp2_with fail
    go_ret
    exact ⟨rfl, KR.out.below⟩
   case pos =>
    have H6 := Lib.hid h6
    clear h6
    obtain ⟨y, hy⟩ : ∃ y, l[k]? = some y := ⟨_, List.getElem?_eq_getElem (show k < l.length by have q := HL2.out; have q2 := HLT.out; omega)⟩
    obtain ⟨g2, off, ha, hg⟩ := rows_range HR2.out hy
    subst ha
    have HG := Lib.hid hg
    have HYO := Lib.hid (HOK2.out y (List.mem_of_getElem? hy))
    have HYI := Lib.hid (show (y.wh : Int) < 256 ∧ (y.po : Int) < 256 by obtain ⟨q1, q2, -⟩ := HYO.out; omega)
    obtain ⟨p, hp, lp⟩ : ∃ r, r = y.po % 8 ∧ r < 8 := ⟨_, rfl, Nat.mod_lt _ (by decide)⟩
    obtain ⟨q, hq, lq⟩ : ∃ r, r = y.wh % 10 ∧ r < 10 := ⟨_, rfl, Nat.mod_lt _ (by decide)⟩
    have HPP := Lib.hid (show (y.po : Int) % 8 = (p : Int) ∧ (p : Int) < 8 by omega)
    have HQQ := Lib.hid (show (y.wh : Int) % 10 = (q : Int) ∧ (q : Int) < 10 by omega)
    have HQC := Lib.hid (show q = 0 ∨ q = 1 ∨ q = 2 ∨ (3 ≤ q ∧ q < 10) by omega)
    clear hy hg hp lp hq lq
    go_upto_region 5 with fail
    refine lz (wz6 (iV (k : Nat)) (.slice (some ⟨g2, off, none⟩) n2 m2) (iV (n2 : Nat)) (.bool true) (.bool true) (iV (k : Nat)) (h4 := by have q := HLT.out; go_simp) (h := wz2 (.bool true) (.bool true) (h1 := by have q := H6.out; go_simp; try omega) (h2 := by exact run_pick_yes (.tmp 32) (.tmp 34) (.const (.bool false)) _ rfl rfl rfl) (h := nz ?_)))
    go_upto_region 7 with fail
    refine lz (wz4 (.slice (some ⟨g2, off, none⟩) n2 m2) (iV (k : Nat)) (pT g2 (off + k * 14)) (.agg (acA y)) (h3 := by have q1 : k < n2 := HLT.out; have q2 : n2 ≤ m2 := HNM2.out.1; go_simp) (h4 := by exact run_loadRange 56 _ rfl g2 (off + k * 14) rfl (acA y) _ (HG.out _ KR.out.below) Tryd.underlying56 rfl sizeAc) (h := ?_))
    refine kx_alloc KR.out 56 (nilAc) rfl zAc (by rfl) (pz (h := ?_))
    intro b31 w31 K31
    refine kx_row K31.out 3 rfl 56 _ _ (acA y) rfl rfl rfl rfl (sizeAc) (by rfl) (by kernel_rfl) (py (h := ?_))
    intro w32 K32
    refine wpList_nil ?_
    go_upto_region 8 with fail
    refine lz (wz5 (pT b31 1) (.int .u8 (y.po : Nat)) (.int .u8 (p : Nat)) (iV (p : Nat)) (iV (p : Nat)) (h2 := by have q : w32.cell? ⟨b31, 1, none⟩ = some (.int .u8 (y.po : Nat)) := K32.out.cell (i := 3) rfl (by rfl); go_simp) (h3 := by have q0 := HPP.out.1; have q1 := HYI.out.2; have q2 := HPP.out.2; go_simp; first | exact wrS (by omega) (by omega) | exact tmN q0) (h4 := by have q2 := HPP.out.2; go_simp; first | exact wrS (by omega) (by omega) | exact tmN q0) (h := nz ?_))
    go_upto_region 9 with fail
    refine lz (wz3 (pT b31 0) (.int .u8 (y.wh : Nat)) (.int .u8 (q : Nat)) (h2 := by have q : w32.cell? ⟨b31, 0, none⟩ = some (.int .u8 (y.wh : Nat)) := K32.out.cell (i := 3) rfl (by rfl); go_simp) (h3 := by have q0 := HQQ.out.1; have q1 := HYI.out.1; have q2 := HQQ.out.2; go_simp; first | exact wrS (by omega) (by omega) | exact tmN q0) (h := nz ?_))
    go_upto_region 11 with fail
    rename_i KX hKX KB hKB KC hKC
    have HKX := Lib.hid hKX
    clear hKX
    have REST := Lib.hid (show ∀ (s' : St) (r1 r2 r3 r4 : Value) (B' : Nat) (W' : World) (f49 f50 f51 f52 f53 f54 f55 f56 f57 f58 f59 f60 f61 f62 f63 f64 f65 f66 f67 f68 f69 f70 f71 f72 f73 f74 f75 f76 f77 f78 f79 f80 : Value), Iv s' → Kx w [(b1, sgA x (.slice a n m), 25), (b10, stA s' r1 r2 r3 r4, 40), (b11, #[tv, fv], 49), (b31, acA y, 56)] (bdS B' s' r1 r2 r3 r4) W' → KX { tmps := #[.agg (sgA x (.slice a n m)), .slice (some ⟨g2, off, none⟩) n2 m2, .pointer (some ⟨b1, 0, none⟩), undef, u4, .pointer (some ⟨b10, 0, none⟩), .pointer (some ⟨b11, 0, none⟩), .int .i64 (k : Nat), .pointer (some ⟨b31, 0, none⟩), .int .i64 (p : Nat), u10, u11, u12, u13, u14, u15, u16, u17, u18, u19, .bool true, .bool false, .tuple #[.agg (stA t0.s p1 p2 p3 p4), .agg #[tv, fv]], .agg (sgA x (.slice a n m)), stV (madeS x pl) um (.slice none 0 0) (.slice none 0 0) (.slice none 0 0), .tuple #[.agg (stA t0.s p1 p2 p3 p4), .agg #[tv, fv]], .agg (stA t0.s p1 p2 p3 p4), .agg (#[tv, fv]), .int .i64 (k : Nat), .slice (some ⟨g2, off, none⟩) n2 m2, .int .i64 (n2 : Nat), .bool true, .bool true, .int .i64 (k : Nat), .bool true, .bool true, u36, u37, .slice (some ⟨g2, off, none⟩) n2 m2, .int .i64 (k : Nat), .pointer (some ⟨g2, off + k * 14, none⟩), .agg (acA y), .pointer (some ⟨b31, 1, none⟩), .int .u8 (y.po : Nat), .int .u8 (p : Nat), .int .i64 (p : Nat), .pointer (some ⟨b31, 0, none⟩), .int .u8 (y.wh : Nat), .int .u8 (q : Nat), f49, f50, f51, f52, f53, f54, f55, f56, f57, f58, f59, f60, f61, f62, f63, f64, f65, f66, f67, f68, f69, f70, f71, f72, f73, f74, f75, f76, f77, f78, f79, f80, u81, u82, u83, u84, u85, u86, u87, u88, u89, u90, u91, u92, u93, u94, u95, u96, u97, u98, u99, u100, u101, u102, u103, u104, u105, u106, u107, u108, u109, u110, u111, u112, u113, u114, u115, u116, u117, u118, u119, u120, u121, u122, u123, u124, u125, u126, u127, u128, u129, u130, u131, u132, u133, u134, u135, u136, u137, u138, u139, u140, u141, u142, u143, u144, u145, u146, u147, u148, u149, u150, u151, u152, u153, u154, u155, u156, u157, u158, u159, u160, u161, u162, u163, u164, u165, u166, u167, u168, u169, u170, u171, u172, u173, u174, u175, u176, u177, u178, u179, u180, u181, u182, u183, u184, u185, u186, u187, u188, u189, u190, u191, u192, u193, u194, u195, u196, u197, u198, u199, u200, u201, u202, u203, u204, u205, u206, u207], defers := [] } W' from by
     as_aux_lemma =>
      intro s r1 r2 r3 r4 B' W' f49 f50 f51 f52 f53 f54 f55 f56 f57 f58 f59 f60 f61 f62 f63 f64 f65 f66 f67 f68 f69 f70 f71 f72 f73 f74 f75 f76 f77 f78 f79 f80 hIV hK
      have HIV := Lib.hid hIV
      have KZ := Lib.hid hK
      clear hIV hK KR
      refine HKX.out _ _ ?_
      clear HKX
      have HLT0 := HLT
      obtain ⟨a1, mm, er, hm1, hm2⟩ := KZ.out.a.o1.shape
      obtain ⟨nn, hnn⟩ : ∃ z, z = s.po.length := ⟨_, rfl⟩
      rw [← hnn] at er hm1
      subst er
      have HNN := Lib.hid (show nn = s.po.length ∧ nn ≤ 6 by have q := HIV.out.few; omega)
      have HMM := Lib.hid (show nn ≤ mm ∧ mm ≤ maxLen from ⟨hm1, hm2⟩)
      have HNI := Lib.hid (show (nn : Int) ≤ 6 by have q := HNN.out.2; omega)
      clear hnn hm1 hm2
      go_upto_region 16 with fail
      refine lz (wz1 (.slice none 0 0) (h := nz ?_))
      go_upto_region 17 with fail
      refine lz (wz1 (iV 0) (h := nz ?_))
      go_upto_region 18 with fail
      go_loopw [10, 11] (fun cu i wr => ∃ (k2 : Nat) (qa : Option Addr) (ra : Nat), k2 ≤ nn ∧ i = .int .i64 k2 ∧ cu = .slice qa k2 ra ∧ Kx w [(b1, sgA x (.slice a n m), 25), (b10, stA s (.slice a1 nn mm) r2 r3 r4, 40), (b11, #[tv, fv], 49), (b31, acA y, 56)] ((bdS B' s (.slice a1 nn mm) r2 r3 r4).and (bdO w.heap.size 76 8 rpC (.slice qa k2 ra) (rpTo s.po k2))) wr ∧ ∀ k, (bdS B' s (.slice a1 nn mm) r2 r3 r4).f k → (Value.slice qa k2 ra).ownBlock ≠ some k) (fun _ i _ => (nn - intOf i).toNat)
      case atStart => exact ⟨0, none, 0, Nat.zero_le _, rfl, rfl, ⟨KZ.out.kb, ⟨KZ.out.a, Own.nil _ _ _ _ _⟩, fun x hx hf => hf.elim (KZ.out.ap x hx) (fun q => by cases q), fun k hf => hf.elim (KZ.out.nw k) (fun q => by cases q)⟩, fun k _ q => by cases q⟩
      case round =>
       obtain ⟨k2, qa, ra, hk2, rfl, rfl, hK, hD⟩ := hrel
       have KR := Lib.hid hK
       have HD := Lib.hid hD
       have HK2 := Lib.hid hk2
       clear hK hD hk2 KZ
       have i2 : (nn : Int) ≤ 100 := by have q := HNI.out; omega
       by_cases hlt : k2 < nn
       case pos =>
        have HLK := Lib.hid hlt
        obtain ⟨x2, hx2⟩ : ∃ z, s.po[k2]? = some z := ⟨_, List.getElem?_eq_getElem (show k2 < s.po.length by have q := HNN.out.1; omega)⟩
        obtain ⟨g, rfl⟩ := own_ptr KR.out.a.1.o1 hx2
        have hk1 := HIV.out.ok k2 x2 hx2
        obtain ⟨u, hu⟩ : ∃ u, u = vecN x2 := ⟨_, rfl⟩
        obtain ⟨cN, hcN⟩ : ∃ c, c = x2.p3.toNat := ⟨_, rfl⟩
        obtain ⟨iN, hiN⟩ : ∃ c, c = (idP x2 ((k2 : Int) + 1)).toNat := ⟨_, rfl⟩
        have hid1 : idP x2 ((k2 : Int) + 1) = (iN : Int) := by rw [hiN]; exact (Int.toNat_of_nonneg (idP_is x2 _).1).symm
        have hyy := okP_is hk1
        rw [← hu, ← hcN] at hyy
        have hy2 : s.po[k2]? = some { x2 with p3 := (cN : Nat), p13 := (u.r : Nat), p14 := (u.c : Nat), p15 := (u.b : Nat), p16 := (u.p : Nat) } := by rw [hx2]; exact congrArg some hyy
        obtain ⟨on, hon⟩ : ∃ q, q = onP x2 := ⟨_, rfl⟩
        obtain ⟨hd, hhd⟩ : ∃ q, q = decide (x2.p12 = 2) := ⟨_, rfl⟩
        have HRPE := Lib.hid (show rpN x2 k2 = ⟨on, hd, u, cN, iN⟩ by unfold rpN; rw [← hu, ← hcN, ← hiN, ← hon, ← hhd])
        have HIY := Lib.hid hx2
        have HY := Lib.hid hy2
        have HID := Lib.hid (show idP { x2 with p3 := (cN : Nat), p13 := (u.r : Nat), p14 := (u.c : Nat), p15 := (u.b : Nat), p16 := (u.p : Nat) } ((k2 : Int) + 1) = (iN : Int) from hid1)
        have HON := Lib.hid hon
        have HHD := Lib.hid hhd
        have HKB2 := Lib.hid (show (k2 : Int) < 100 by omega)
        have HLN := Lib.hid (show k2 + 1 ≤ s.po.length by have q1 := HNN.out.1; omega)
        clear hlt hx2 hk1 hu hcN hiN hid1 hyy hy2 hon hhd
        go_upto_region 18 with fail
        refine lz (wz5 (iV (k2 : Nat)) (pT b10 6) (.slice (some ⟨g, 0, none⟩) nn mm) (iV (nn : Nat)) (.bool true) (h3 := by have q : wr.cell? ⟨b10, 6, none⟩ = some (.slice (some ⟨g, 0, none⟩) nn mm) := (KR.out.at (i := 1) rfl).cell 6; go_simp) (h5 := by have q := HLK.out; go_simp) (h := nz ?_))
        go_upto_region 20 with fail
        refine lz (wz5 (pT b10 6) (.slice (some ⟨g, 0, none⟩) nn mm) (iV (k2 : Nat)) (pT g (k2 * 21)) (.agg (poA { x2 with p3 := (cN : Nat), p13 := (u.r : Nat), p14 := (u.c : Nat), p15 := (u.b : Nat), p16 := (u.p : Nat) })) (h2 := by have q : wr.cell? ⟨b10, 6, none⟩ = some (.slice (some ⟨g, 0, none⟩) nn mm) := (KR.out.at (i := 1) rfl).cell 6; go_simp) (h4 := by have q1 : k2 < nn := HLK.out; have q2 : nn ≤ mm := HMM.out.1; go_simp) (h5 := by exact run_loadRange 73 _ rfl g (k2 * 21) rfl (poA { x2 with p3 := (cN : Nat), p13 := (u.r : Nat), p14 := (u.c : Nat), p15 := (u.b : Nat), p16 := (u.p : Nat) }) _ (own_range KR.out.a.1.o1 HY.out) Tryd.underlying73 rfl (po_info _)) (h := ?_))
        refine kx_alloc KR.out 73 (nil21) rfl z50 (by rfl) (pz (h := ?_))
        intro b61 w61 K61
        refine kx_row K61.out 4 rfl 73 _ _ (poA { x2 with p3 := (cN : Nat), p13 := (u.r : Nat), p14 := (u.c : Nat), p15 := (u.b : Nat), p16 := (u.p : Nat) }) rfl rfl rfl rfl (size50) (by rfl) (po_all _) (py (h := ?_))
        intro w62 K62
        refine wpList_nil ?_
        go_upto_region 21 with fail
        have HLL := Lib.hid (show (rpTo s.po k2).length ≤ 100 by rw [rpTo_len k2 (by have q := HLN.out; omega)]; have q := HKB2.out; omega)
        have KF := Lib.hid (show ∀ W, w62.grownBy W (Value.slice qa k2 ra).ownBlock → Blk W b61 (poA { x2 with p3 := (cN : Nat), p13 := (u.r : Nat), p14 := (u.c : Nat), p15 := (u.b : Nat), p16 := (u.p : Nat) }) 73 from fun W hW => (K62.out.at (i := 4) rfl).grown hW (fun e => K62.out.ap (b61, poA { x2 with p3 := (cN : Nat), p13 := (u.r : Nat), p14 := (u.c : Nat), p15 := (u.b : Nat), p16 := (u.p : Nat) }, 73) (by simp) (.inr e.symm)))
        refine wp_region_lastW 17 (I := RlAI x pl a n m g2 off n2 m2 k p q b1 b10 b11 b31 b61 s nn mm g k2 cN iN r2 r3 r4 tv fv y t0 um p1 p2 p3 p4 x2 u on hd qa ra _ _ _ _ _ _ _ _ _ _ _ _ _ _ _ _ _ _ _ _ _ _ _ _ _ _ _ _ _ _ _ _ _ _ _ _ _ _ _ _ _ _ _ _ _ _ _ _ _ _ _ _ _ _ _ _ _ _ _ _ _ _ _ _ _ _ _ _ _ _ _ _ _ _ _ _ _ _ _ _ _ _ _ _ _ _ _ _ _ _ _ _ _ _ _ _ _ _ _ _ _ _ _ _ _ _ _ _ _ _ _ _ _ _ _ _ _ _ _ _ _ _ _ _ _ _ _ _ _ _ _ _ _ _ _ _ _ _ _ _ _ _ _ w.heap.size w62) (by kernel_rfl) (by kernel_rfl) (by kernel_rfl) ⟨_, _, _, _, _, _, _, _, _, _, _, _, _, _, _, _, _, rfl, ⟨(fun h => Bool.noConfusion h), (fun h => Bool.noConfusion h), (fun h => Bool.noConfusion h), (fun h => Bool.noConfusion h), (fun h => Bool.noConfusion h), (fun h => Bool.noConfusion h), (fun h => Bool.noConfusion h), (fun h => Bool.noConfusion h), (fun h => Bool.noConfusion h), (fun h => Bool.noConfusion h), (fun h => Bool.noConfusion h), (fun h => Bool.noConfusion h), (fun h => Bool.noConfusion h), (fun h => Bool.noConfusion h), (fun h => Bool.noConfusion h)⟩, ApW.start K62.out.a.2 K62.out.below.size⟩ ?_ ?_
        ·
         intro o ho Lx ac w' hI hL haft
         obtain ⟨v93, v94, v95, v96, v97, v98, v99, v100, v101, v102, v103, v104, v105, v106, v107, v108, v109, rfl, hs, hw⟩ := hI
         match o, ho with
         | 0, _ =>
          exact i_val rfl (.slice qa k2 ra) w' (by rfl) (by go_simp) ⟨(.slice qa k2 ra), v94, v95, v96, v97, v98, v99, v100, v101, v102, v103, v104, v105, v106, v107, v108, v109, rfl, { hs with e93 := fun _ => rfl }, hw⟩
         | 1, _ =>
          exact i_val rfl (.agg (poA { x2 with p3 := (cN : Nat), p13 := (u.r : Nat), p14 := (u.c : Nat), p15 := (u.b : Nat), p16 := (u.p : Nat) })) w' (by rfl) (run_loadVar_of 73 _ rfl b61 rfl 73 _ _ (KF.out w' hw.g) Tryd.underlying73 rfl (po_info _)) ⟨v93, (.agg (poA { x2 with p3 := (cN : Nat), p13 := (u.r : Nat), p14 := (u.c : Nat), p15 := (u.b : Nat), p16 := (u.p : Nat) })), v95, v96, v97, v98, v99, v100, v101, v102, v103, v104, v105, v106, v107, v108, v109, rfl, { hs with e94 := fun _ => rfl }, hw⟩
         | 2, _ =>
          have e94x := hs.e94 (haft 1 (by decide))
          subst e94x
          exact i_call rfl (.bool on) 20 #[.agg (poA { x2 with p3 := (cN : Nat), p13 := (u.r : Nat), p14 := (u.c : Nat), p15 := (u.b : Nat), p16 := (u.p : Nat) })] (fun w2 => Below w'.heap.size w' w2) (by rfl) (by go_simp) (by have q := on_any { x2 with p3 := (cN : Nat), p13 := (u.r : Nat), p14 := (u.c : Nat), p15 := (u.b : Nat), p16 := (u.p : Nat) } w'; rw [show onP { x2 with p3 := (cN : Nat), p13 := (u.r : Nat), p14 := (u.c : Nat), p15 := (u.b : Nat), p16 := (u.p : Nat) } = on from HON.out.symm] at q; exact q) (fun w2 hb => ⟨v93, (.agg (poA { x2 with p3 := (cN : Nat), p13 := (u.r : Nat), p14 := (u.c : Nat), p15 := (u.b : Nat), p16 := (u.p : Nat) })), (.bool on), v96, v97, v98, v99, v100, v101, v102, v103, v104, v105, v106, v107, v108, v109, rfl, { hs with e95 := fun _ => rfl }, hw.next hb⟩)
         | 3, _ =>
          exact i_val rfl (.pointer (some ⟨b61, 12, none⟩)) w' (by rfl) (by go_simp) ⟨v93, v94, v95, (.pointer (some ⟨b61, 12, none⟩)), v97, v98, v99, v100, v101, v102, v103, v104, v105, v106, v107, v108, v109, rfl, { hs with e96 := fun _ => rfl }, hw⟩
         | 4, _ =>
          have e96x := hs.e96 (haft 3 (by decide))
          subst e96x
          exact i_val rfl (.int .i64 x2.p12) w' (by rfl) (by have q : w'.cell? ⟨b61, 12, none⟩ = some (.int .i64 x2.p12) := ((KF.out w' hw.g).cell 12).trans (by rfl); go_simp) ⟨v93, v94, v95, (.pointer (some ⟨b61, 12, none⟩)), (.int .i64 x2.p12), v98, v99, v100, v101, v102, v103, v104, v105, v106, v107, v108, v109, rfl, { hs with e97 := fun _ => rfl }, hw⟩
         | 5, _ =>
          have e97x := hs.e97 (haft 4 (by decide))
          subst e97x
          exact i_val rfl (.bool hd) w' (by rfl) (by rw [show (Value.bool hd) = .bool (decide (x2.p12 = 2)) from by rw [HHD.out]]; go_simp; try rfl) ⟨v93, v94, v95, v96, (.int .i64 x2.p12), (.bool hd), v99, v100, v101, v102, v103, v104, v105, v106, v107, v108, v109, rfl, { hs with e98 := fun _ => rfl }, hw⟩
         | 6, _ =>
          exact i_val rfl (.pointer (some ⟨b61, 13, none⟩)) w' (by rfl) (by go_simp) ⟨v93, v94, v95, v96, v97, v98, (.pointer (some ⟨b61, 13, none⟩)), v100, v101, v102, v103, v104, v105, v106, v107, v108, v109, rfl, { hs with e99 := fun _ => rfl }, hw⟩
         | 7, _ =>
          have e99x := hs.e99 (haft 6 (by decide))
          subst e99x
          exact i_val rfl (.agg (vcA u)) w' (by rfl) (run_loadPart_of 71 _ rfl b61 13 rfl 73 _ (vcA u).toList _ (KF.out w' hw.g) (part_of (by kernel_rfl)) Tryd.underlying71 rfl sizeV) ⟨v93, v94, v95, v96, v97, v98, (.pointer (some ⟨b61, 13, none⟩)), (.agg (vcA u)), v101, v102, v103, v104, v105, v106, v107, v108, v109, rfl, { hs with e100 := fun _ => rfl }, hw⟩
         | 8, _ =>
          exact i_val rfl (.pointer (some ⟨b61, 3, none⟩)) w' (by rfl) (by go_simp) ⟨v93, v94, v95, v96, v97, v98, v99, v100, (.pointer (some ⟨b61, 3, none⟩)), v102, v103, v104, v105, v106, v107, v108, v109, rfl, { hs with e101 := fun _ => rfl }, hw⟩
         | 9, _ =>
          have e101x := hs.e101 (haft 8 (by decide))
          subst e101x
          exact i_val rfl (.int .u32 (cN : Nat)) w' (by rfl) (by have q : w'.cell? ⟨b61, 3, none⟩ = some (.int .u32 (cN : Nat)) := ((KF.out w' hw.g).cell 3).trans (by rfl); go_simp) ⟨v93, v94, v95, v96, v97, v98, v99, v100, (.pointer (some ⟨b61, 3, none⟩)), (.int .u32 (cN : Nat)), v103, v104, v105, v106, v107, v108, v109, rfl, { hs with e102 := fun _ => rfl }, hw⟩
         | 10, _ =>
          exact i_val rfl (.agg (poA { x2 with p3 := (cN : Nat), p13 := (u.r : Nat), p14 := (u.c : Nat), p15 := (u.b : Nat), p16 := (u.p : Nat) })) w' (by rfl) (run_loadVar_of 73 _ rfl b61 rfl 73 _ _ (KF.out w' hw.g) Tryd.underlying73 rfl (po_info _)) ⟨v93, v94, v95, v96, v97, v98, v99, v100, v101, v102, (.agg (poA { x2 with p3 := (cN : Nat), p13 := (u.r : Nat), p14 := (u.c : Nat), p15 := (u.b : Nat), p16 := (u.p : Nat) })), v104, v105, v106, v107, v108, v109, rfl, { hs with e103 := fun _ => rfl }, hw⟩
         | 11, _ =>
          exact i_val rfl (.int .i64 (k2 : Nat)) w' (by rfl) (by go_simp) ⟨v93, v94, v95, v96, v97, v98, v99, v100, v101, v102, v103, (.int .i64 (k2 : Nat)), v105, v106, v107, v108, v109, rfl, { hs with e104 := fun _ => rfl }, hw⟩
         | 12, _ =>
          have e104x := hs.e104 (haft 11 (by decide))
          subst e104x
          exact i_val rfl (.int .i64 ((k2 : Int) + 1)) w' (by rfl) (by have q := HKB2.out; go_simp; try exact wrap_i64 (by omega) (by omega)) ⟨v93, v94, v95, v96, v97, v98, v99, v100, v101, v102, v103, (.int .i64 (k2 : Nat)), (.int .i64 ((k2 : Int) + 1)), v106, v107, v108, v109, rfl, { hs with e105 := fun _ => rfl }, hw⟩
         | 13, _ =>
          have e103x := hs.e103 (haft 10 (by decide))
          subst e103x
          have e105x := hs.e105 (haft 12 (by decide))
          subst e105x
          exact i_call rfl (.int .u16 (iN : Nat)) 21 #[.agg (poA { x2 with p3 := (cN : Nat), p13 := (u.r : Nat), p14 := (u.c : Nat), p15 := (u.b : Nat), p16 := (u.p : Nat) }), .int .i64 ((k2 : Int) + 1)] (fun w2 => Below w'.heap.size w' w2) (by rfl) (by go_simp) (by have q := id_any { x2 with p3 := (cN : Nat), p13 := (u.r : Nat), p14 := (u.c : Nat), p15 := (u.b : Nat), p16 := (u.p : Nat) } ((k2 : Int) + 1) w'; rw [HID.out] at q; exact q) (fun w2 hb => ⟨v93, v94, v95, v96, v97, v98, v99, v100, v101, v102, (.agg (poA { x2 with p3 := (cN : Nat), p13 := (u.r : Nat), p14 := (u.c : Nat), p15 := (u.b : Nat), p16 := (u.p : Nat) })), v104, (.int .i64 ((k2 : Int) + 1)), (.int .u16 (iN : Nat)), v107, v108, v109, rfl, { hs with e106 := fun _ => rfl }, hw.next hb⟩)
         | 14, _ =>
          have e95x := hs.e95 (haft 2 (by decide))
          subst e95x
          have e98x := hs.e98 (haft 5 (by decide))
          subst e98x
          have e100x := hs.e100 (haft 7 (by decide))
          subst e100x
          have e102x := hs.e102 (haft 9 (by decide))
          subst e102x
          have e106x := hs.e106 (haft 13 (by decide))
          subst e106x
          exact i_val rfl (.agg (rpA ⟨on, hd, u, cN, iN⟩)) w' (by rfl) (run_build_of 76 [(0, .tmp 95), (1, .tmp 98), (2, .tmp 100), (3, .tmp 102), (4, .tmp 106)] rfl _ (rpA ⟨on, hd, u, cN, iN⟩) rfl (built_rp _ _ _ _ _)) ⟨v93, v94, (.bool on), v96, v97, (.bool hd), v99, (.agg (vcA u)), v101, (.int .u32 (cN : Nat)), v103, v104, v105, (.int .u16 (iN : Nat)), (.agg (rpA ⟨on, hd, u, cN, iN⟩)), v108, v109, rfl, { hs with e107 := fun _ => rfl }, hw⟩
         | 15, _ =>
          have e107x := hs.e107 (haft 14 (by decide))
          subst e107x
          exact i_val rfl (.slice (some ⟨w'.heap.size, 0, none⟩) 1 1) (w'.alloc (.cells (rpA ⟨on, hd, u, cN, iN⟩) 76)) (by rfl) (run_bs1 67 (.tmp 107) rfl (.agg (rpA ⟨on, hd, u, cN, iN⟩)) _ rfl (one_rp ⟨on, hd, u, cN, iN⟩ w')) ⟨v93, v94, v95, v96, v97, v98, v99, v100, v101, v102, v103, v104, v105, v106, (.agg (rpA ⟨on, hd, u, cN, iN⟩)), (.slice (some ⟨w'.heap.size, 0, none⟩) 1 1), v109, rfl, { hs with }, hw.made rpT hL _ rfl⟩
         | 16, _ =>
          have e93x := hs.e93 (haft 0 (by decide))
          subst e93x
          obtain ⟨u, w2, hrun, hw2⟩ := hw.app rpT (haft 15 (by decide)) hL (by have := HLL.out; omega) 67
          have hmk := haft 15 (by decide)
          exact i_wp rfl (by rfl) (wp_append_lst _ _ 67 rfl u w2 hrun ⟨(.slice qa k2 ra), v94, v95, v96, v97, v98, v99, v100, v101, v102, v103, v104, v105, v106, v107, v108, u, rfl, { hs with }, by rw [show upd Lx 16 15 = true from hmk]; exact hw2⟩)
         | k + 17, h =>
          exfalso
          have h2 : k + 17 < 17 := h
          omega
        intro Lx ac w' hI hall
        obtain ⟨v93, v94, v95, v96, v97, v98, v99, v100, v101, v102, v103, v104, v105, v106, v107, v108, v109, rfl, hs, hw⟩ := hI
        have e93y := hs.e93 (hall 0 (by decide))
        subst e93y
        have e94y := hs.e94 (hall 1 (by decide))
        subst e94y
        have e95y := hs.e95 (hall 2 (by decide))
        subst e95y
        have e96y := hs.e96 (hall 3 (by decide))
        subst e96y
        have e97y := hs.e97 (hall 4 (by decide))
        subst e97y
        have e98y := hs.e98 (hall 5 (by decide))
        subst e98y
        have e99y := hs.e99 (hall 6 (by decide))
        subst e99y
        have e100y := hs.e100 (hall 7 (by decide))
        subst e100y
        have e101y := hs.e101 (hall 8 (by decide))
        subst e101y
        have e102y := hs.e102 (hall 9 (by decide))
        subst e102y
        have e103y := hs.e103 (hall 10 (by decide))
        subst e103y
        have e104y := hs.e104 (hall 11 (by decide))
        subst e104y
        have e105y := hs.e105 (hall 12 (by decide))
        subst e105y
        have e106y := hs.e106 (hall 13 (by decide))
        subst e106y
        have e107y := hs.e107 (hall 14 (by decide))
        subst e107y
        have HA := Lib.hid hw
        rw [hall 15 (by decide), hall 16 (by decide)] at HA
        clear hs hall hw
        obtain ⟨q', r', eu, -⟩ := (HA.out.pr rfl).shape
        rw [← HRPE.out, ← rpTo_step HIY.out, rpTo_len (k2 + 1) HLN.out] at eu
        subst eu
        refine i_val rfl (.slice q' (k2 + 1) r') w' (by rfl) (by go_simp) ?_
        have KN := Lib.hid (Kx.app3 K62.out HD.out HA.out)
        have hlt := HLK.out
        go_wp2_with fail
        go_roundw
        case rel => exact ⟨k2 + 1, q', r', HLK.out, by go_num, rfl, by rw [rpTo_step HIY.out, HRPE.out]; exact Kx.left (r := [(b61, poA { x2 with p3 := (cN : Nat), p13 := (u.r : Nat), p14 := (u.c : Nat), p15 := (u.b : Nat), p16 := (u.p : Nat) }, 73)]) KN.out.1, KN.out.2⟩
        case measure => have := HLK.out; simp [intOf]; omega
       case neg =>
        have HLT2 := Lib.hid hlt
        clear hlt
        have hkn : nn = k2 := by have q1 := HK2.out; have q2 := HLT2.out; omega
        subst hkn
        go_upto_region 18 with fail
        refine lz (wz5 (iV (nn : Nat)) (pT b10 6) (.slice a1 nn mm) (iV (nn : Nat)) (.bool false) (h3 := by have q : wr.cell? ⟨b10, 6, none⟩ = some (.slice a1 nn mm) := (KR.out.at (i := 1) rfl).cell 6; go_simp) (h := nz ?_))
        go_upto_region 22 with fail
        have HSF := Lib.hid (show s.cf.p0 = ((selfN ⟨s, [], []⟩ : Nat) : Int) from (Int.toNat_of_nonneg HIV.out.id.1).symm)
        have HCHO := Lib.hid (choose_any (selfN ⟨s, [], []⟩) (rpTo s.po nn) nn ra qa wr w.heap.size (rpTo_len nn (Nat.le_of_eq HNN.out.1)) (by have q := HNN.out.2; omega) (show Own wr w.heap.size 76 8 rpC (.slice qa nn ra) (rpTo s.po nn) from KR.out.a.2) (fun z hz => by obtain ⟨j, x, hx, rfl⟩ := rpTo_mem nn z hz; exact rpN_ok (HIV.out.ok j x hx) j))
        rw [show rolesE (selfN ⟨s, [], []⟩) (rootN (selfN ⟨s, [], []⟩) (bestU (selfN ⟨s, [], []⟩) (rpTo s.po nn) nn)) (costN (selfN ⟨s, [], []⟩) (bestU (selfN ⟨s, [], []⟩) (rpTo s.po nn) nn)) (portN (selfN ⟨s, [], []⟩) (bestU (selfN ⟨s, [], []⟩) (rpTo s.po nn) nn)) (rpTo s.po nn) nn = rolesOf ⟨s, [], []⟩ from by rw [HNN.out.1]; rfl, show tellsK (selfN ⟨s, [], []⟩) (rootN (selfN ⟨s, [], []⟩) (bestU (selfN ⟨s, [], []⟩) (rpTo s.po nn) nn)) (costN (selfN ⟨s, [], []⟩) (bestU (selfN ⟨s, [], []⟩) (rpTo s.po nn) nn)) (rpTo s.po nn) nn = tellsOf ⟨s, [], []⟩ from by rw [HNN.out.1]; rfl] at HCHO
        obtain ⟨sf, hsf⟩ : ∃ z, z = selfN ⟨s, [], []⟩ := ⟨_, rfl⟩
        rw [← hsf] at HSF HCHO
        clear hsf
        refine lz (wz4 (pT b10 0) (pT b10 0) (.int .u64 (sf : Nat)) (.slice qa nn ra) (h3 := by have q : wr.cell? ⟨b10, 0, none⟩ = some (.int .u64 s.cf.p0) := (KR.out.at (i := 1) rfl).cell 0; rw [HSF.out] at q; go_simp) (h := ?_))
        refine wpList_callx4 22 #[.int .u64 (sf : Nat), .slice qa nn ra] (fun v w5 => ∃ R0 C0 P0 u1 u2, v = .agg (chA R0 C0 P0 u1 u2) ∧ Own w5 wr.heap.size 3 1 inC u1 (rolesOf ⟨s, [], []⟩) ∧ Own w5 wr.heap.size 71 4 vcC u2 (tellsOf ⟨s, [], []⟩) ∧ Below wr.heap.size wr w5) (by rfl) (by go_simp) (HCHO.out.mono fun e w5 ⟨u1, u2, q1, q2, q3, q4⟩ => ⟨_, q1, _, _, _, u1, u2, rfl, q2, q3, q4⟩) ?_
        rintro v w45 ⟨R0, C0, P0, u1, u2, rfl, hO1, hO2, hB5⟩
        (try simp only [Act.put, gA, gS, gZ, sA, sZ, sS])
        have HONE := Lib.hid (one_ch (R := R0) (C := C0) (P := P0) hO1.oneCell hO2.oneCell)
        obtain ⟨BQ, hBQ⟩ : ∃ z, z = wr.heap.size := ⟨_, rfl⟩
        have KS0 := Lib.hid (show Kx w [(b1, sgA x (.slice a n m), 25), (b10, stA s (.slice a1 nn mm) r2 r3 r4, 40), (b11, #[tv, fv], 49), (b31, acA y, 56)] (bdS B' s (.slice a1 nn mm) r2 r3 r4) wr from ⟨KR.out.kb, KR.out.a.1, fun x hx hf => KR.out.ap x hx (.inl hf), fun k hf => KR.out.nw k (.inl hf)⟩)
        have K45 := Lib.hid (show Kx w [(b1, sgA x (.slice a n m), 25), (b10, stA s (.slice a1 nn mm) r2 r3 r4, 40), (b11, #[tv, fv], 49), (b31, acA y, 56)] ((bdS B' s (.slice a1 nn mm) r2 r3 r4).and ((bdO BQ 3 1 inC u1 (rolesOf ⟨s, [], []⟩)).and (bdO BQ 71 4 vcC u2 (tellsOf ⟨s, [], []⟩)))) w45 from by rw [hBQ]; exact KS0.out.more hB5 ⟨hO1, hO2⟩ (fun k hk => hk.elim (fun q => (hO1.lt _ q).1) (fun q => (hO2.lt _ q).1)))
        clear hO1 hO2 hB5 HCHO KS0 hBQ
        refine kx_alloc K45.out 79 (nilCh) rfl z34c (by rfl) (pz (h := ?_))
        intro b46 w46 K46
        refine kx_row K46.out 4 rfl 79 _ _ (chA R0 C0 P0 u1 u2) rfl rfl rfl rfl (size34c) (by rfl) (HONE.out) (py (h := ?_))
        intro w47 K47
        refine wpList_nil ?_
        obtain ⟨q1, c1, e1, hc1, hm1⟩ := K47.out.a.2.1.shape
        obtain ⟨q2, c2, e2, hc2, hm2⟩ := K47.out.a.2.2.shape
        rw [rolesOf_len, show (⟨s, [], []⟩ : TS).s.po.length = nn from HNN.out.1.symm] at e1 hc1
        rw [tellsOf_len, show (⟨s, [], []⟩ : TS).s.po.length = nn from HNN.out.1.symm] at e2 hc2
        subst e1 e2
        have HC1 := Lib.hid (show nn ≤ c1 ∧ c1 ≤ maxLen from ⟨hc1, hm1⟩)
        have HC2 := Lib.hid (show nn ≤ c2 ∧ c2 ≤ maxLen from ⟨hc2, hm2⟩)
        clear hc1 hm1 hc2 hm2
        go_upto_region 23 with fail
        refine lz (wz1 (iV 0) (h := nz ?_))
        go_upto_region 24 with fail
        go_loopw [14] (fun i wr => ∃ k3 : Nat, k3 ≤ nn ∧ i = .int .i64 k3 ∧ Kx w [(b1, sgA x (.slice a n m), 25), (b10, stA s (.slice a1 nn mm) r2 r3 r4, 40), (b11, #[tv, fv], 49), (b31, acA y, 56), (b46, chA R0 C0 P0 (.slice q1 nn c1) (.slice q2 nn c2), 79)] ((bdS B' s (.slice a1 nn mm) r2 r3 r4).and ((bdO BQ 3 1 inC (.slice q1 nn c1) (rolesOf ⟨s, [], []⟩)).and (bdO BQ 71 4 vcC (.slice q2 nn c2) (tellsOf ⟨s, [], []⟩)))) wr) (fun i _ => (nn - intOf i).toNat)
        case atStart => exact ⟨0, Nat.zero_le _, rfl, K47.out⟩
        case round =>
         obtain ⟨k3, hk3, rfl, hK⟩ := hrel
         have KP := Lib.hid hK
         have HK3 := Lib.hid hk3
         clear hK hk3 KR
         by_cases hlt : k3 < nn
         case neg =>
          have HLT := Lib.hid hlt
          clear hlt
          go_upto_region 24 with fail
          refine lz (wz5 (iV (k3 : Nat)) (pT b10 6) (.slice a1 nn mm) (iV (nn : Nat)) (.bool false) (h3 := by have q : wr.cell? ⟨b10, 6, none⟩ = some (.slice a1 nn mm) := (KP.out.at (i := 1) rfl).cell 6; go_simp) (h5 := by have q := HLT.out; go_simp) (h := nz ?_))
          have hkb : (k : Int) < 60 := by have q := H6.out; omega
          go_wp2_with fail
          go_roundw
          case rel =>
           iterate 194 apply Exists.intro
           refine And.intro ?_ ?_
           rotate_left
           next => repeat' (first | exact rfl | apply And.intro)
           exact ⟨k + 1, s, .slice a1 nn mm, r2, r3, r4, B', (by have q := HLT0.out; omega), (by have q := H6.out; omega), by go_num, HIV.out, ⟨Kb.left (l := [(b1, sgA x (.slice a n m), 25), (b10, stA s (.slice a1 nn mm) r2 r3 r4, 40), (b11, #[tv, fv], 49)]) (r := [(b31, acA y, 56), (b46, chA R0 C0 P0 (.slice q1 nn c1) (.slice q2 nn c2), 79)]) KP.out.kb, KP.out.a.1, fun xx hx hf => KP.out.ap xx (show xx ∈ [(b1, sgA x (.slice a n m), 25), (b10, stA s (.slice a1 nn mm) r2 r3 r4, 40), (b11, #[tv, fv], 49)] ++ [(b31, acA y, 56), (b46, chA R0 C0 P0 (.slice q1 nn c1) (.slice q2 nn c2), 79)] from List.mem_append_left _ hx) (.inl hf), fun k hf => KP.out.nw k (.inl hf)⟩⟩
          case measure => have q := H6.out; show (60 - intOf (Value.int IntKind.i64 ((k : Int) + 1))).toNat < (60 - intOf (Value.int IntKind.i64 (k : Int))).toNat; simp [intOf]; omega
         case pos =>
          have HLT := Lib.hid hlt
          clear hlt
          have HL3 := HLT
          obtain ⟨x3, hx3⟩ : ∃ z, s.po[k3]? = some z := ⟨_, List.getElem?_eq_getElem (show k3 < s.po.length by have q := HNN.out.1; have q2 := HL3.out; omega)⟩
          obtain ⟨g, rfl⟩ := own_ptr KP.out.a.1.o1 hx3
          obtain ⟨u3, hu3⟩ : ∃ u, u = vecN x3 := ⟨_, rfl⟩
          have hxu : x3 = poU x3 u3 := by rw [hu3]; exact okP_poU (HIV.out.ok k3 x3 hx3)
          have HX3 := Lib.hid (show s.po[k3]? = some (poU x3 u3) from hxu ▸ hx3)
          have hk3 : k3 < s.po.length := (List.getElem?_eq_some_iff.1 hx3).1
          obtain ⟨rr, hrr⟩ : ∃ r, (rolesOf ⟨s, [], []⟩)[k3]? = some r := ⟨_, List.getElem?_eq_getElem (by rw [rolesOf_len]; exact hk3)⟩
          obtain ⟨vv, hvv⟩ : ∃ r, (tellsOf ⟨s, [], []⟩)[k3]? = some r := ⟨_, List.getElem?_eq_getElem (by rw [tellsOf_len]; exact hk3)⟩
          have hg1 : (rolesOf ⟨s, [], []⟩).getD k3 0 = rr := by rw [List.getD_eq_getElem?_getD, hrr]; rfl
          have hg2 : (tellsOf ⟨s, [], []⟩).getD k3 ⟨0, 0, 0, 0⟩ = vv := by rw [List.getD_eq_getElem?_getD, hvv]; rfl
          have HRO := Lib.hid (show x3.p10 = rr from by rw [← hg1]; exact HIV.out.ro.role k3 x3 hx3)
          have HSH := Lib.hid (show x3.p10 ≠ 3 → x3.p10 ≠ 4 → x3.p11 = 0 from HIV.out.ro.shut k3 x3 hx3)
          have HTE := Lib.hid (show x3.p10 = 4 → u3 = vv ∧ x3.p12 = 1 from fun h => by have q := HIV.out.ro.tell k3 x3 hx3 h; rw [hg2] at q; rw [hu3]; exact q)
          have HFO := Lib.hid (show x3.p10 = 3 → x3.p11 = 2 from (HIV.out.ro.pre k3 x3 hx3).root)
          obtain ⟨gq1, hgq1⟩ : ∃ g, q1 = some ⟨g, 0, none⟩ := by
           rcases KP.out.a.2.1.cases with ⟨-, e⟩ | ⟨g, c, e, -⟩
           ·
            rw [e] at hrr; cases hrr
           ·
            injection e with e1 e2 e3; exact ⟨g, e1⟩
          obtain ⟨gq2, hgq2⟩ : ∃ g, q2 = some ⟨g, 0, none⟩ := by
           rcases KP.out.a.2.2.cases with ⟨-, e⟩ | ⟨g, c, e, -⟩
           ·
            rw [e] at hvv; cases hvv
           ·
            injection e with e1 e2 e3; exact ⟨g, e1⟩
          subst hgq1 hgq2
          have HRR := Lib.hid hrr
          have HVV := Lib.hid hvv
          have HXB := Lib.hid (open_bit · s.po k3 x3 hx3 nn HL3.out (Nat.le_of_eq HNN.out.1))
          clear hx3 hu3 hxu hk3 hrr hvv hg1 hg2
          go_upto_region 24 with fail
          refine lz (wz5 (iV (k3 : Nat)) (pT b10 6) (.slice (some ⟨g, 0, none⟩) nn mm) (iV (nn : Nat)) (.bool true) (h3 := by have q : wr.cell? ⟨b10, 6, none⟩ = some (.slice (some ⟨g, 0, none⟩) nn mm) := (KP.out.at (i := 1) rfl).cell 6; go_simp) (h5 := by have q := HL3.out; go_simp) (h := nz ?_))
          go_upto_region 26 with fail
          refine lz (wz5 (pT b10 6) (.slice (some ⟨g, 0, none⟩) nn mm) (iV (k3 : Nat)) (pT g (k3 * 21)) (.agg (poA { x3 with p13 := (u3.r : Nat), p14 := (u3.c : Nat), p15 := (u3.b : Nat), p16 := (u3.p : Nat) })) (h2 := by have q : wr.cell? ⟨b10, 6, none⟩ = some (.slice (some ⟨g, 0, none⟩) nn mm) := (KP.out.at (i := 1) rfl).cell 6; go_simp) (h4 := by have q1 : k3 < nn := HL3.out; have q2 : nn ≤ mm := HMM.out.1; go_simp) (h5 := by exact run_loadRange 73 _ rfl g (k3 * 21) rfl (poA { x3 with p13 := (u3.r : Nat), p14 := (u3.c : Nat), p15 := (u3.b : Nat), p16 := (u3.p : Nat) }) _ (own_range KP.out.a.1.o1 HX3.out) Tryd.underlying73 rfl (po_info _)) (h := ?_))
          refine kx_alloc KP.out 73 (nil21) rfl z50 (by rfl) (pz (h := ?_))
          intro b71 w71 K71
          refine kx_row K71.out 5 rfl 73 _ _ (poA { x3 with p13 := (u3.r : Nat), p14 := (u3.c : Nat), p15 := (u3.b : Nat), p16 := (u3.p : Nat) }) rfl rfl rfl rfl (size50) (by rfl) (po_all _) (py (h := ?_))
          intro w72 K72
          refine wpList_nil ?_
          go_upto_region 27 with fail
          refine rjoin (fun ac wq => ∃ (f127 f128 f129 f130 f131 f132 f133 f134 : Value) (bf : Bool), w72 = wq ∧ ((x3.p10 = 3 ∨ x3.p10 = 4) ↔ bf = true) ∧ ac = { tmps := #[.agg (sgA x (.slice a n m)), .slice (some ⟨g2, off, none⟩) n2 m2, .pointer (some ⟨b1, 0, none⟩), undef, u4, .pointer (some ⟨b10, 0, none⟩), .pointer (some ⟨b11, 0, none⟩), .int .i64 (k : Nat), .pointer (some ⟨b31, 0, none⟩), .int .i64 (p : Nat), .slice qa nn ra, .int .i64 (nn : Nat), u12, .pointer (some ⟨b46, 0, none⟩), .int .i64 (k3 : Nat), .pointer (some ⟨b71, 0, none⟩), .bool bf, u17, u18, u19, .bool true, .bool false, .tuple #[.agg (stA t0.s p1 p2 p3 p4), .agg #[tv, fv]], .agg (sgA x (.slice a n m)), stV (madeS x pl) um (.slice none 0 0) (.slice none 0 0) (.slice none 0 0), .tuple #[.agg (stA t0.s p1 p2 p3 p4), .agg #[tv, fv]], .agg (stA t0.s p1 p2 p3 p4), .agg (#[tv, fv]), .int .i64 (k : Nat), .slice (some ⟨g2, off, none⟩) n2 m2, .int .i64 (n2 : Nat), .bool true, .bool true, .int .i64 (k : Nat), .bool true, .bool true, u36, u37, .slice (some ⟨g2, off, none⟩) n2 m2, .int .i64 (k : Nat), .pointer (some ⟨g2, off + k * 14, none⟩), .agg (acA y), .pointer (some ⟨b31, 1, none⟩), .int .u8 (y.po : Nat), .int .u8 (p : Nat), .int .i64 (p : Nat), .pointer (some ⟨b31, 0, none⟩), .int .u8 (y.wh : Nat), .int .u8 (q : Nat), f49, f50, f51, f52, f53, f54, f55, f56, f57, f58, f59, f60, f61, f62, f63, f64, f65, f66, f67, f68, f69, f70, f71, f72, f73, f74, f75, f76, f77, f78, f79, f80, .int .i64 (nn : Nat), .pointer (some ⟨b10, 6, none⟩), .slice (some ⟨g, 0, none⟩) nn mm, .int .i64 (nn : Nat), .bool false, u86, u87, u88, u89, u90, u91, u92, u93, u94, u95, u96, u97, u98, u99, u100, u101, u102, u103, u104, u105, u106, u107, u108, u109, .pointer (some ⟨b10, 0, none⟩), .pointer (some ⟨b10, 0, none⟩), .int .u64 (sf : Nat), .slice qa nn ra, .agg (chA R0 C0 P0 (.slice (some ⟨gq1, 0, none⟩) nn c1) (.slice (some ⟨gq2, 0, none⟩) nn c2)), .int .i64 (k3 : Nat), .pointer (some ⟨b10, 6, none⟩), .slice (some ⟨g, 0, none⟩) nn mm, .int .i64 (nn : Nat), .bool true, u120, u121, .pointer (some ⟨b10, 6, none⟩), .slice (some ⟨g, 0, none⟩) nn mm, .int .i64 (k3 : Nat), .pointer (some ⟨g, k3 * 21, none⟩), .agg (poA { x3 with p13 := (u3.r : Nat), p14 := (u3.c : Nat), p15 := (u3.b : Nat), p16 := (u3.p : Nat) }), f127, f128, f129, f130, f131, f132, f133, f134, u135, u136, u137, u138, u139, u140, u141, u142, u143, u144, u145, u146, u147, u148, u149, u150, u151, u152, u153, u154, u155, u156, u157, u158, u159, u160, u161, u162, u163, u164, u165, u166, u167, u168, u169, u170, u171, u172, u173, u174, u175, u176, u177, u178, u179, u180, u181, u182, u183, u184, u185, u186, u187, u188, u189, u190, u191, u192, u193, u194, u195, u196, u197, u198, u199, u200, u201, u202, u203, u204, u205, u206, u207], defers := [] }) ?_ ?_
          next =>
           intro Q' hQ'
           rcases (show x3.p10 = 3 ∨ x3.p10 = 4 ∨ (x3.p10 ≠ 3 ∧ x3.p10 ≠ 4) by omega) with hr3 | hr3 | hr3
           next =>
            have HR3 := Lib.hid hr3
            clear hr3
            refine lz (wz4 (pT b71 10) (iV x3.p10) (.bool true) (.bool true) (h2 := by have q : w72.cell? ⟨b71, 10, none⟩ = some (iV x3.p10) := K72.out.cell (i := 5) rfl (by rfl); go_simp) (h3 := by have q := HR3.out; go_simp) (h := wk (h := wk (h := wk (h := wz2 (.bool true) (.bool true) (h1 := by exact run_pick_yes (.tmp 130) (.const (.bool true)) (.tmp 133) _ rfl rfl rfl) (h := nz ?_))))))
            exact hQ' _ _ ⟨_, _, _, _, _, _, _, _, true, rfl, by have q := HR3.out; simp [q], rfl⟩
           next =>
            have HR3 := Lib.hid hr3
            clear hr3
            have HN3 := Lib.hid (show ¬ x3.p10 = 3 by have q := HR3.out; omega)
            refine lz (wz6 (pT b71 10) (iV x3.p10) (.bool false) (.bool false) (pT b71 10) (iV x3.p10) (h2 := by have q : w72.cell? ⟨b71, 10, none⟩ = some (iV x3.p10) := K72.out.cell (i := 5) rfl (by rfl); go_simp) (h3 := by have q := HN3.out; go_simp) (h6 := by have q : w72.cell? ⟨b71, 10, none⟩ = some (iV x3.p10) := K72.out.cell (i := 5) rfl (by rfl); go_simp) (h := wz3 (.bool true) (.bool true) (.bool true) (h1 := by have q := HR3.out; go_simp) (h2 := by exact run_pick_no (.tmp 130) (.const (.bool true)) (.tmp 133) _ rfl rfl rfl) (h := nz ?_)))
            exact hQ' _ _ ⟨_, _, _, _, _, _, _, _, true, rfl, by have q := HR3.out; simp [q], rfl⟩
           next =>
            have HR3 := Lib.hid hr3
            clear hr3
            have HN3 := Lib.hid HR3.out.1
            have HN4 := Lib.hid HR3.out.2
            refine lz (wz6 (pT b71 10) (iV x3.p10) (.bool false) (.bool false) (pT b71 10) (iV x3.p10) (h2 := by have q : w72.cell? ⟨b71, 10, none⟩ = some (iV x3.p10) := K72.out.cell (i := 5) rfl (by rfl); go_simp) (h3 := by have q := HN3.out; go_simp) (h6 := by have q : w72.cell? ⟨b71, 10, none⟩ = some (iV x3.p10) := K72.out.cell (i := 5) rfl (by rfl); go_simp) (h := wz3 (.bool false) (.bool false) (.bool false) (h1 := by have q := HN4.out; go_simp) (h2 := by exact run_pick_no (.tmp 130) (.const (.bool true)) (.tmp 133) _ rfl rfl rfl) (h := nz ?_)))
            exact hQ' _ _ ⟨_, _, _, _, _, _, _, _, false, rfl, by have q := HR3.out; simp [q], rfl⟩
          rintro _ _ ⟨f127, f128, f129, f130, f131, f132, f133, f134, bf, rfl, hbf, rfl⟩
          have HBF := Lib.hid hbf
          clear hbf
          go_upto_region 28 with fail
          refine rjoin (fun ac wq => ∃ (f144 f145 f146 f147 f148 f149 f155 f156 f157 f158 f159 f160 f161 f162 f163 f164 f165 f166 f167 f168 f169 f175 f176 f177 f178 f179 : Value), Kx w [(b1, sgA x (.slice a n m), 25), (b10, stA s (.slice (some ⟨g, 0, none⟩) nn mm) r2 r3 r4, 40), (b11, #[tv, fv], 49), (b31, acA y, 56), (b46, chA R0 C0 P0 (.slice (some ⟨gq1, 0, none⟩) nn c1) (.slice (some ⟨gq2, 0, none⟩) nn c2), 79), (b71, poA { x3 with p13 := (u3.r : Nat), p14 := (u3.c : Nat), p15 := (u3.b : Nat), p16 := (u3.p : Nat) }, 73)] ((bdS B' s (.slice (some ⟨g, 0, none⟩) nn mm) r2 r3 r4).and ((bdO BQ 3 1 inC (.slice (some ⟨gq1, 0, none⟩) nn c1) (rolesOf ⟨s, [], []⟩)).and (bdO BQ 71 4 vcC (.slice (some ⟨gq2, 0, none⟩) nn c2) (tellsOf ⟨s, [], []⟩)))) wq ∧ ac = { tmps := #[.agg (sgA x (.slice a n m)), .slice (some ⟨g2, off, none⟩) n2 m2, .pointer (some ⟨b1, 0, none⟩), undef, u4, .pointer (some ⟨b10, 0, none⟩), .pointer (some ⟨b11, 0, none⟩), .int .i64 (k : Nat), .pointer (some ⟨b31, 0, none⟩), .int .i64 (p : Nat), .slice qa nn ra, .int .i64 (nn : Nat), u12, .pointer (some ⟨b46, 0, none⟩), .int .i64 (k3 : Nat), .pointer (some ⟨b71, 0, none⟩), .bool bf, u17, u18, u19, .bool true, .bool false, .tuple #[.agg (stA t0.s p1 p2 p3 p4), .agg #[tv, fv]], .agg (sgA x (.slice a n m)), stV (madeS x pl) um (.slice none 0 0) (.slice none 0 0) (.slice none 0 0), .tuple #[.agg (stA t0.s p1 p2 p3 p4), .agg #[tv, fv]], .agg (stA t0.s p1 p2 p3 p4), .agg (#[tv, fv]), .int .i64 (k : Nat), .slice (some ⟨g2, off, none⟩) n2 m2, .int .i64 (n2 : Nat), .bool true, .bool true, .int .i64 (k : Nat), .bool true, .bool true, u36, u37, .slice (some ⟨g2, off, none⟩) n2 m2, .int .i64 (k : Nat), .pointer (some ⟨g2, off + k * 14, none⟩), .agg (acA y), .pointer (some ⟨b31, 1, none⟩), .int .u8 (y.po : Nat), .int .u8 (p : Nat), .int .i64 (p : Nat), .pointer (some ⟨b31, 0, none⟩), .int .u8 (y.wh : Nat), .int .u8 (q : Nat), f49, f50, f51, f52, f53, f54, f55, f56, f57, f58, f59, f60, f61, f62, f63, f64, f65, f66, f67, f68, f69, f70, f71, f72, f73, f74, f75, f76, f77, f78, f79, f80, .int .i64 (nn : Nat), .pointer (some ⟨b10, 6, none⟩), .slice (some ⟨g, 0, none⟩) nn mm, .int .i64 (nn : Nat), .bool false, u86, u87, u88, u89, u90, u91, u92, u93, u94, u95, u96, u97, u98, u99, u100, u101, u102, u103, u104, u105, u106, u107, u108, u109, .pointer (some ⟨b10, 0, none⟩), .pointer (some ⟨b10, 0, none⟩), .int .u64 (sf : Nat), .slice qa nn ra, .agg (chA R0 C0 P0 (.slice (some ⟨gq1, 0, none⟩) nn c1) (.slice (some ⟨gq2, 0, none⟩) nn c2)), .int .i64 (k3 : Nat), .pointer (some ⟨b10, 6, none⟩), .slice (some ⟨g, 0, none⟩) nn mm, .int .i64 (nn : Nat), .bool true, u120, u121, .pointer (some ⟨b10, 6, none⟩), .slice (some ⟨g, 0, none⟩) nn mm, .int .i64 (k3 : Nat), .pointer (some ⟨g, k3 * 21, none⟩), .agg (poA { x3 with p13 := (u3.r : Nat), p14 := (u3.c : Nat), p15 := (u3.b : Nat), p16 := (u3.p : Nat) }), f127, f128, f129, f130, f131, f132, f133, f134, .pointer (some ⟨b71, 10, none⟩), .int .i64 x3.p10, .pointer (some ⟨b46, 3, none⟩), .slice (some ⟨gq1, 0, none⟩) nn c1, .int .i64 (k3 : Nat), .pointer (some ⟨gq1, k3, none⟩), .int .i64 rr, .bool false, .bool false, f144, f145, f146, f147, f148, f149, .bool false, .bool false, .bool false, .pointer (some ⟨b71, 10, none⟩), .int .i64 x3.p10, f155, f156, f157, f158, f159, f160, f161, f162, f163, f164, f165, f166, f167, f168, f169, .bool false, .bool false, .bool false, .pointer (some ⟨b71, 10, none⟩), .int .i64 x3.p10, f175, f176, f177, f178, f179, .bool false, .bool false, u182, u183, u184, u185, u186, u187, u188, u189, u190, u191, u192, u193, u194, u195, u196, u197, u198, u199, u200, u201, u202, u203, u204, u205, u206, u207], defers := [] }) ?_ ?_
          next =>
           intro Q' hQ'
           rcases (show x3.p10 = 3 ∨ x3.p10 = 4 ∨ (x3.p10 ≠ 3 ∧ x3.p10 ≠ 4) by omega) with hr3 | hr3 | hr3
           next =>
            have HR3 := Lib.hid hr3
            clear hr3
            obtain rfl : bf = true := HBF.out.1 (by have q := HR3.out; omega)
            refine rk (fun (_ : Unit) => [pT b71 10, iV x3.p10, pT b46 3, .slice (some ⟨gq1, 0, none⟩) nn c1, iV (k3 : Nat), pT gq1 k3, iV rr, .bool false, .bool false, .bool true, .bool false, .bool false, undef, undef, undef, .bool false, .bool false, .bool false, pT b71 10, iV x3.p10, .bool false, .bool false, undef, undef, undef, undef, undef, undef, undef, undef, undef, undef, undef, undef, undef, .bool false, .bool false, .bool false, pT b71 10, iV x3.p10, .bool true, .bool true, pT b71 11, iV x3.p11, .bool false, .bool false, .bool false]) (fun _ Lx w' => Kx w [(b1, sgA x (.slice a n m), 25), (b10, stA s (.slice (some ⟨g, 0, none⟩) nn mm) r2 r3 r4, 40), (b11, #[tv, fv], 49), (b31, acA y, 56), (b46, chA R0 C0 P0 (.slice (some ⟨gq1, 0, none⟩) nn c1) (.slice (some ⟨gq2, 0, none⟩) nn c2), 79), (b71, poA { x3 with p13 := (u3.r : Nat), p14 := (u3.c : Nat), p15 := (u3.b : Nat), p16 := (u3.p : Nat) }, 73)] ((bdS B' s (.slice (some ⟨g, 0, none⟩) nn mm) r2 r3 r4).and ((bdO BQ 3 1 inC (.slice (some ⟨gq1, 0, none⟩) nn c1) (rolesOf ⟨s, [], []⟩)).and (bdO BQ 71 4 vcC (.slice (some ⟨gq2, 0, none⟩) nn c2) (tellsOf ⟨s, [], []⟩)))) w') (()) [12, 13, 14, 22, 23, 24, 25, 26, 27, 28, 29, 30, 31, 32, 33, 34] [(1, fun _ => ⟨b71, 10, none⟩), (3, fun _ => ⟨b46, 3, none⟩), (6, fun _ => ⟨gq1, k3, none⟩), (19, fun _ => ⟨b71, 10, none⟩), (39, fun _ => ⟨b71, 10, none⟩), (43, fun _ => ⟨b71, 11, none⟩)] [(5, fun _ => [(138, .slice (some ⟨gq1, 0, none⟩) nn c1), (139, iV (k3 : Nat))]), (7, fun _ => [(136, iV x3.p10), (141, iV rr)]), (20, fun _ => [(154, iV x3.p10)]), (40, fun _ => [(174, iV x3.p10)]), (44, fun _ => [(178, iV x3.p11)])] [] (K72.out.drew) (fun _ Lx w' hw => ⟨fun _ => Kx.cell (i := 5) hw rfl (by rfl), fun _ => Kx.cell (i := 4) hw rfl (by rfl), fun _ => Own.cellAt (enc := inC) (size := 1) (fun _ => rfl) hw.a.2.1 HRR.out (j := 0) rfl (by omega), fun _ => Kx.cell (i := 5) hw rfl (by rfl), fun _ => Kx.cell (i := 5) hw rfl (by rfl), fun _ => Kx.cell (i := 5) hw rfl (by rfl), trivial⟩) (fun _ _ _ _ _ h => h) ?_ ?_
            ·
             refine ⟨?_, ?_, ?_, ?_, ?_, trivial⟩ <;> (rintro _ Lx w' hw hL haft hdc ρ hc hf hG hs o ho; cases ho; try dsimp only [pT, iV, seen] at hw hs)
             ·
              exact sq (pT gq1 k3) (by have q1 : k3 < nn := HL3.out; have q2 := HC1.out.1; go_simp)
             ·
              exact sq (.bool false) (by have q := HRO.out; go_simp)
             ·
              exact sq (.bool false) (by have q : ¬ x3.p10 = 4 := (by have := HR3.out; omega); go_simp)
             ·
              exact sq (.bool true) (by have q := HR3.out; go_simp)
             ·
              exact sq (.bool false) (by have q := HFO.out HR3.out; go_simp)
            intro _ Lx w73 hw hall
            try dsimp only at hw
            simp only [pT, iV, List.toList_toArray, putsZ_some, putsZ_none, putsZ_nil, List.setIfInBounds_toArray, List.set_cons_zero, List.set_cons_succ]
            have K73 := Lib.hid hw
            clear hw hall
            exact hQ' _ _ ⟨_, _, _, _, _, _, _, _, _, _, _, _, _, _, _, _, _, _, _, _, _, _, _, _, _, _, K73.out, rfl⟩
           next =>
            have HR3 := Lib.hid hr3
            clear hr3
            have HN3 := Lib.hid (show ¬ x3.p10 = 3 by have q := HR3.out; omega)
            obtain rfl : bf = true := HBF.out.1 (by have q := HR3.out; omega)
            have CEV := Lib.hid (show ∀ W : World, (Op.equalIn 10000 71 (.agg (vcA u3)) (.agg (vcA vv))).run Tryd.prog W = .ok true W from fun W => by have q := equal_vc u3 vv W; rw [(HTE.out HR3.out).1] at q ⊢; rw [q]; simp [eqV])
            refine rk (fun (_ : Unit) => [pT b71 10, iV x3.p10, pT b46 3, .slice (some ⟨gq1, 0, none⟩) nn c1, iV (k3 : Nat), pT gq1 k3, iV rr, .bool false, .bool false, .bool true, .bool false, .bool false, undef, undef, undef, .bool false, .bool false, .bool false, pT b71 10, iV x3.p10, .bool true, .bool true, pT b71 13, .agg (#[.int .u64 (u3.r : Nat), .int .u32 (u3.c : Nat), .int .u64 (u3.b : Nat), .int .u16 (u3.p : Nat)]), pT b46 4, .slice (some ⟨gq2, 0, none⟩) nn c2, iV (k3 : Nat), pT gq2 (k3 * 4), .agg (vcA vv), .bool false, .bool false, pT b71 12, iV x3.p12, .bool false, .bool false, .bool false, .bool false, .bool false, pT b71 10, iV x3.p10, .bool false, .bool false, undef, undef, undef, .bool false, .bool false]) (fun _ Lx w' => Kx w [(b1, sgA x (.slice a n m), 25), (b10, stA s (.slice (some ⟨g, 0, none⟩) nn mm) r2 r3 r4, 40), (b11, #[tv, fv], 49), (b31, acA y, 56), (b46, chA R0 C0 P0 (.slice (some ⟨gq1, 0, none⟩) nn c1) (.slice (some ⟨gq2, 0, none⟩) nn c2), 79), (b71, poA { x3 with p13 := (u3.r : Nat), p14 := (u3.c : Nat), p15 := (u3.b : Nat), p16 := (u3.p : Nat) }, 73)] ((bdS B' s (.slice (some ⟨g, 0, none⟩) nn mm) r2 r3 r4).and ((bdO BQ 3 1 inC (.slice (some ⟨gq1, 0, none⟩) nn c1) (rolesOf ⟨s, [], []⟩)).and (bdO BQ 71 4 vcC (.slice (some ⟨gq2, 0, none⟩) nn c2) (tellsOf ⟨s, [], []⟩)))) w') (()) [12, 13, 14, 42, 43, 44] [(1, fun _ => ⟨b71, 10, none⟩), (3, fun _ => ⟨b46, 3, none⟩), (6, fun _ => ⟨gq1, k3, none⟩), (19, fun _ => ⟨b71, 10, none⟩), (25, fun _ => ⟨b46, 4, none⟩), (32, fun _ => ⟨b71, 12, none⟩), (39, fun _ => ⟨b71, 10, none⟩)] [(5, fun _ => [(138, .slice (some ⟨gq1, 0, none⟩) nn c1), (139, iV (k3 : Nat))]), (7, fun _ => [(136, iV x3.p10), (141, iV rr)]), (20, fun _ => [(154, iV x3.p10)]), (23, fun _ => [(157, pT b71 13)]), (27, fun _ => [(160, .slice (some ⟨gq2, 0, none⟩) nn c2), (161, iV (k3 : Nat))]), (28, fun _ => [(162, pT gq2 (k3 * 4))]), (29, fun _ => [(158, .agg (#[.int .u64 (u3.r : Nat), .int .u32 (u3.c : Nat), .int .u64 (u3.b : Nat), .int .u16 (u3.p : Nat)])), (163, .agg (vcA vv))]), (33, fun _ => [(167, iV x3.p12)]), (40, fun _ => [(174, iV x3.p10)])] [] (K72.out.drew) (fun _ Lx w' hw => ⟨fun _ => Kx.cell (i := 5) hw rfl (by rfl), fun _ => Kx.cell (i := 4) hw rfl (by rfl), fun _ => Own.cellAt (enc := inC) (size := 1) (fun _ => rfl) hw.a.2.1 HRR.out (j := 0) rfl (by omega), fun _ => Kx.cell (i := 5) hw rfl (by rfl), fun _ => Kx.cell (i := 4) hw rfl (by rfl), fun _ => Kx.cell (i := 5) hw rfl (by rfl), fun _ => Kx.cell (i := 5) hw rfl (by rfl), trivial⟩) (fun _ _ _ _ _ h => h) ?_ ?_
            ·
             refine ⟨?_, ?_, ?_, ?_, ?_, ?_, ?_, ?_, ?_, trivial⟩ <;> (rintro _ Lx w' hw hL haft hdc ρ hc hf hG hs o ho; cases ho; try dsimp only [pT, iV, seen] at hw hs)
             ·
              exact sq (pT gq1 k3) (by have q1 : k3 < nn := HL3.out; have q2 := HC1.out.1; go_simp)
             ·
              exact sq (.bool false) (by have q := HRO.out; go_simp)
             ·
              exact sq (.bool true) (by have q := HR3.out; go_simp)
             ·
              obtain ⟨e157, _⟩ := hs
              exact sq (.agg (#[.int .u64 (u3.r : Nat), .int .u32 (u3.c : Nat), .int .u64 (u3.b : Nat), .int .u16 (u3.p : Nat)])) (l_partof 71 _ rfl _ 13 e157 _ _ ((#[.int .u64 (u3.r : Nat), .int .u32 (u3.c : Nat), .int .u64 (u3.b : Nat), .int .u16 (u3.p : Nat)]).toList) _ (Kx.at (i := 5) hw rfl) (part_of (by kernel_rfl)) Tryd.underlying71 rfl (sizeV))
             ·
              exact sq (pT gq2 (k3 * 4)) (by have q1 : k3 < nn := HL3.out; have q2 := HC2.out.1; go_simp)
             ·
              obtain ⟨e162, _⟩ := hs
              exact sq (.agg (vcA vv)) (l_range 71 _ rfl gq2 (k3 * 4) e162 (vcA vv) _ (fun c v hv => Own.cellAt (enc := vcC) (size := 4) (fun _ => rfl) hw.a.2.2 HVV.out hv rfl) Tryd.underlying71 rfl sizeV)
             ·
              exact sq (.bool false) (by have q := CEV.out; go_simp)
             ·
              exact sq (.bool false) (by have q := (HTE.out HR3.out).2; go_simp)
             ·
              exact sq (.bool false) (by have q : ¬ x3.p10 = 3 := (by have := HR3.out; omega); go_simp)
            intro _ Lx w73 hw hall
            try dsimp only at hw
            simp only [pT, iV, List.toList_toArray, putsZ_some, putsZ_none, putsZ_nil, List.setIfInBounds_toArray, List.set_cons_zero, List.set_cons_succ]
            have K73 := Lib.hid hw
            clear hw hall
            exact hQ' _ _ ⟨_, _, _, _, _, _, _, _, _, _, _, _, _, _, _, _, _, _, _, _, _, _, _, _, _, _, K73.out, rfl⟩
           next =>
            have HR3 := Lib.hid hr3
            clear hr3
            have HN3 := Lib.hid HR3.out.1
            have HN4 := Lib.hid HR3.out.2
            obtain rfl : bf = false := by cases bf; rfl; exact absurd (HBF.out.2 rfl) (by have q := HR3.out; omega)
            refine rk (fun (_ : Unit) => [pT b71 10, iV x3.p10, pT b46 3, .slice (some ⟨gq1, 0, none⟩) nn c1, iV (k3 : Nat), pT gq1 k3, iV rr, .bool false, .bool false, .bool false, .bool true, .bool true, pT b71 11, iV x3.p11, .bool false, .bool false, .bool false, .bool false, pT b71 10, iV x3.p10, .bool false, .bool false, undef, undef, undef, undef, undef, undef, undef, undef, undef, undef, undef, undef, undef, .bool false, .bool false, .bool false, pT b71 10, iV x3.p10, .bool false, .bool false, undef, undef, undef, .bool false, .bool false]) (fun _ Lx w' => Kx w [(b1, sgA x (.slice a n m), 25), (b10, stA s (.slice (some ⟨g, 0, none⟩) nn mm) r2 r3 r4, 40), (b11, #[tv, fv], 49), (b31, acA y, 56), (b46, chA R0 C0 P0 (.slice (some ⟨gq1, 0, none⟩) nn c1) (.slice (some ⟨gq2, 0, none⟩) nn c2), 79), (b71, poA { x3 with p13 := (u3.r : Nat), p14 := (u3.c : Nat), p15 := (u3.b : Nat), p16 := (u3.p : Nat) }, 73)] ((bdS B' s (.slice (some ⟨g, 0, none⟩) nn mm) r2 r3 r4).and ((bdO BQ 3 1 inC (.slice (some ⟨gq1, 0, none⟩) nn c1) (rolesOf ⟨s, [], []⟩)).and (bdO BQ 71 4 vcC (.slice (some ⟨gq2, 0, none⟩) nn c2) (tellsOf ⟨s, [], []⟩)))) w') (()) [22, 23, 24, 25, 26, 27, 28, 29, 30, 31, 32, 33, 34, 42, 43, 44] [(1, fun _ => ⟨b71, 10, none⟩), (3, fun _ => ⟨b46, 3, none⟩), (6, fun _ => ⟨gq1, k3, none⟩), (13, fun _ => ⟨b71, 11, none⟩), (19, fun _ => ⟨b71, 10, none⟩), (39, fun _ => ⟨b71, 10, none⟩)] [(5, fun _ => [(138, .slice (some ⟨gq1, 0, none⟩) nn c1), (139, iV (k3 : Nat))]), (7, fun _ => [(136, iV x3.p10), (141, iV rr)]), (14, fun _ => [(148, iV x3.p11)]), (20, fun _ => [(154, iV x3.p10)]), (40, fun _ => [(174, iV x3.p10)])] [] (K72.out.drew) (fun _ Lx w' hw => ⟨fun _ => Kx.cell (i := 5) hw rfl (by rfl), fun _ => Kx.cell (i := 4) hw rfl (by rfl), fun _ => Own.cellAt (enc := inC) (size := 1) (fun _ => rfl) hw.a.2.1 HRR.out (j := 0) rfl (by omega), fun _ => Kx.cell (i := 5) hw rfl (by rfl), fun _ => Kx.cell (i := 5) hw rfl (by rfl), fun _ => Kx.cell (i := 5) hw rfl (by rfl), trivial⟩) (fun _ _ _ _ _ h => h) ?_ ?_
            ·
             refine ⟨?_, ?_, ?_, ?_, ?_, trivial⟩ <;> (rintro _ Lx w' hw hL haft hdc ρ hc hf hG hs o ho; cases ho; try dsimp only [pT, iV, seen] at hw hs)
             ·
              exact sq (pT gq1 k3) (by have q1 : k3 < nn := HL3.out; have q2 := HC1.out.1; go_simp)
             ·
              exact sq (.bool false) (by have q := HRO.out; go_simp)
             ·
              exact sq (.bool false) (by have q := HSH.out HN3.out HN4.out; go_simp)
             ·
              exact sq (.bool false) (by have q : ¬ x3.p10 = 4 := (by have := HR3.out; omega); go_simp)
             ·
              exact sq (.bool false) (by have q : ¬ x3.p10 = 3 := (by have := HR3.out; omega); go_simp)
            intro _ Lx w73 hw hall
            try dsimp only at hw
            simp only [pT, iV, List.toList_toArray, putsZ_some, putsZ_none, putsZ_nil, List.setIfInBounds_toArray, List.set_cons_zero, List.set_cons_succ]
            have K73 := Lib.hid hw
            clear hw hall
            exact hQ' _ _ ⟨_, _, _, _, _, _, _, _, _, _, _, _, _, _, _, _, _, _, _, _, _, _, _, _, _, _, K73.out, rfl⟩
          rintro _ w73 ⟨f144, f145, f146, f147, f148, f149, f155, f156, f157, f158, f159, f160, f161, f162, f163, f164, f165, f166, f167, f168, f169, f175, f176, f177, f178, f179, hK, rfl⟩
          have K73 := Lib.hid hK
          clear hK
          go_upto_region 30 with fail
          refine lz (wz1 (iV 0) (h := nz ?_))
          go_upto_region 31 with fail
          go_loopw [17] (fun i wr => ∃ k4 : Nat, k4 ≤ 3 ∧ i = .int .i64 k4 ∧ Kx w [(b1, sgA x (.slice a n m), 25), (b10, stA s (.slice (some ⟨g, 0, none⟩) nn mm) r2 r3 r4, 40), (b11, #[tv, fv], 49), (b31, acA y, 56), (b46, chA R0 C0 P0 (.slice (some ⟨gq1, 0, none⟩) nn c1) (.slice (some ⟨gq2, 0, none⟩) nn c2), 79), (b71, poA { x3 with p13 := (u3.r : Nat), p14 := (u3.c : Nat), p15 := (u3.b : Nat), p16 := (u3.p : Nat) }, 73)] ((bdS B' s (.slice (some ⟨g, 0, none⟩) nn mm) r2 r3 r4).and ((bdO BQ 3 1 inC (.slice (some ⟨gq1, 0, none⟩) nn c1) (rolesOf ⟨s, [], []⟩)).and (bdO BQ 71 4 vcC (.slice (some ⟨gq2, 0, none⟩) nn c2) (tellsOf ⟨s, [], []⟩)))) wr) (fun i _ => (3 - intOf i).toNat)
          case atStart => exact ⟨0, Nat.zero_le _, rfl, K73.out⟩
          case round =>
           obtain ⟨k4, hk4, rfl, hK⟩ := hrel
           have KU := Lib.hid hK
           have HK4 := Lib.hid hk4
           clear hK hk4 KP
           have HK4I := Lib.hid (show (k4 : Int) ≤ 3 by have q := HK4.out; omega)
           by_cases hlt : k4 < 3
           case neg =>
            have HLT := Lib.hid hlt
            clear hlt
            go_upto_region 31 with fail
            refine lz (wz2 (iV (k4 : Nat)) (.bool false) (h2 := by have q := HLT.out; go_simp; try omega) (h := nz ?_))
            have hk3 : (k3 : Int) < 6 := by have q := HL3.out; have q2 := HNI.out; omega
            go_wp2_with fail
            go_roundw
            case rel => exact ⟨k3 + 1, HL3.out, by go_num, Kx.left (r := [(b71, poA { x3 with p13 := (u3.r : Nat), p14 := (u3.c : Nat), p15 := (u3.b : Nat), p16 := (u3.p : Nat) }, 73)]) KU.out⟩
            case measure => have q := HL3.out; show (nn - intOf (Value.int IntKind.i64 ((k3 : Int) + 1))).toNat < (nn - intOf (Value.int IntKind.i64 (k3 : Int))).toNat; simp [intOf]; omega
           case pos =>
            have HLT := Lib.hid hlt
            clear hlt
            have HL4 := HLT
            go_upto_region 31 with fail
            refine lz (wz2 (iV (k4 : Nat)) (.bool true) (h2 := by have q := HL4.out; go_simp; try omega) (h := nz ?_))
            go_upto_region 33 with fail
            refine lz (wz2 (.agg (stA s (.slice (some ⟨g, 0, none⟩) nn mm) r2 r3 r4)) (iV (k4 : Nat)) (h1 := by exact kx_all KU.out 1 rfl 40 _ rfl rfl Tryd.underlying40 rfl (size41)) (h := ?_))
            refine kx_call KU.out 23 #[.agg (stA s (.slice (some ⟨g, 0, none⟩) nn mm) r2 r3 r4), .int .i64 (k4 : Nat)] (.int .u32 (openU (k4 : Int) s.po nn : Nat)) (by rfl) (by go_simp) (by have q := open_call (w := wr) (k4 : Int) KU.out.a.1 (by have q := HNN.out; omega); rw [show s.po.length = nn from HNN.out.1.symm] at q; exact q) (py (h := ?_))
            intro w91 K91
            refine wz1 (.int .u32 (openU (k4 : Int) s.po nn : Nat)) (h := nz ?_)
            go_upto_region 34 with fail
            refine lz (wz1 (iV 0) (h := nz ?_))
            go_upto_region 35 with fail
            have HOU := Lib.hid (show openU (k4 : Int) s.po nn < 65536 from by have q1 := openU_lt (k4 : Int) s.po nn; have q2 := pow16 (k := nn) (by have := HNN.out.2; omega); omega)
            obtain ⟨ou, hou⟩ : ∃ z, z = openU (k4 : Int) s.po nn := ⟨_, rfl⟩
            rw [← hou] at HOU
            rw [← hou]
            have HOE := Lib.hid hou
            clear hou
            go_loopw [18, 19] (fun bt i wr => ∃ k5 : Nat, k5 ≤ k3 ∧ i = .int .i64 k5 ∧ bt = .int .u32 (ou / 2 ^ k5 : Nat) ∧ Kx w [(b1, sgA x (.slice a n m), 25), (b10, stA s (.slice (some ⟨g, 0, none⟩) nn mm) r2 r3 r4, 40), (b11, #[tv, fv], 49), (b31, acA y, 56), (b46, chA R0 C0 P0 (.slice (some ⟨gq1, 0, none⟩) nn c1) (.slice (some ⟨gq2, 0, none⟩) nn c2), 79), (b71, poA { x3 with p13 := (u3.r : Nat), p14 := (u3.c : Nat), p15 := (u3.b : Nat), p16 := (u3.p : Nat) }, 73)] ((bdS B' s (.slice (some ⟨g, 0, none⟩) nn mm) r2 r3 r4).and ((bdO BQ 3 1 inC (.slice (some ⟨gq1, 0, none⟩) nn c1) (rolesOf ⟨s, [], []⟩)).and (bdO BQ 71 4 vcC (.slice (some ⟨gq2, 0, none⟩) nn c2) (tellsOf ⟨s, [], []⟩)))) wr) (fun _ i _ => (k3 - intOf i).toNat)
            case atStart => exact ⟨0, Nat.zero_le _, rfl, by rw [Nat.pow_zero, Nat.div_one], K91.out⟩
            case round =>
             obtain ⟨k5, hk5, rfl, rfl, hK⟩ := hrel
             have KV := Lib.hid hK
             have HK5 := Lib.hid hk5
             obtain ⟨bz, hbz⟩ : ∃ z, z = ou / 2 ^ k5 := ⟨_, rfl⟩
             rw [← hbz]
             have HBZ := Lib.hid hbz
             have HBL := Lib.hid (show (bz : Int) < 65536 by have q := HOU.out; have q2 := Nat.div_le_self ou (2 ^ k5); omega)
             clear hK hk5 KU hbz
             have i5 : (k3 : Int) ≤ 6 := by have q := HL3.out; have q2 := HNI.out; omega
             by_cases hlt : k5 < k3
             case pos =>
              have HLT := Lib.hid hlt
              clear hlt
              have HL5 := HLT
              go_upto_region 35 with fail
              refine lz (wz3 (iV (k5 : Nat)) (iV (k3 : Nat)) (.bool true) (h3 := by have q := HL5.out; go_simp; try omega) (h := nz ?_))
              go_upto_region 37 with fail
              have HQU := Lib.hid (show ((bz : Int)).tdiv 2 = ((bz / 2 : Nat) : Int) from rfl)
              refine lz (wz3 (.int .u32 (bz : Nat)) (.int .u32 (bz / 2 : Nat)) (.int .u32 (bz / 2 : Nat)) (h2 := by have q := HBL.out; have q2 := HQU.out; go_simp; try (rw [IntKind.wrap_u32']; omega)) (h := nz ?_))
              have hk5b : (k5 : Int) < 6 := by have q := HL5.out; omega
              go_wp2_with fail
              go_roundw
              case rel => exact ⟨k5 + 1, HL5.out, by go_num, by rw [HBZ.out, div_next], KV.out⟩
              case measure => have q := HL5.out; show (k3 - intOf (Value.int IntKind.i64 ((k5 : Int) + 1))).toNat < (k3 - intOf (Value.int IntKind.i64 (k5 : Int))).toNat; simp [intOf]; omega
             case neg =>
              have HLT := Lib.hid hlt
              clear hlt
              have hke : k5 = k3 := by have q1 := HK5.out; have q2 := HLT.out; omega
              go_upto_region 35 with fail
              refine lz (wz3 (iV (k5 : Nat)) (iV (k3 : Nat)) (.bool false) (h3 := by have q := HLT.out; go_simp; try omega) (h := nz ?_))
              go_upto_region 38 with fail
              have HBI := Lib.hid (show (bz % 2 = 1 ↔ (onP x3 = true ∧ (k4 : Int) ≤ x3.p11)) from by have q := HXB.out (k4 : Int); rw [← HOE.out, ← hke, ← HBZ.out] at q; exact q)
              clear hke
              obtain ⟨bm, hbm, lbm⟩ : ∃ r, r = bz % 2 ∧ r < 2 := ⟨_, rfl, Nat.mod_lt _ (by decide)⟩
              rw [← hbm] at HBI
              have HBM := Lib.hid (show ((bz : Int)).tmod 2 = (bm : Int) from by rw [hbm]; rfl)
              clear hbm
              rcases (show onP x3 = true ∨ onP x3 = false by cases onP x3 <;> simp) with hon | hon
              case inr =>
               have HON := Lib.hid hon
               clear hon
               obtain rfl : bm = 0 := by have q := HBI.out; have q2 := HON.out; rw [q2] at q; simp at q; omega
               refine lz (wz4 (.int .u32 (bz : Nat)) (.int .u32 0) (.bool false) (.agg (poA { x3 with p13 := (u3.r : Nat), p14 := (u3.c : Nat), p15 := (u3.b : Nat), p16 := (u3.p : Nat) })) (h2 := by have q := HBL.out; have q2 := HBM.out; go_simp; try rfl) (h4 := by exact kx_all KV.out 5 rfl 73 _ rfl rfl Tryd.underlying73 rfl (size50)) (h := ?_))
               refine kx_call KV.out 20 #[.agg (poA { x3 with p13 := (u3.r : Nat), p14 := (u3.c : Nat), p15 := (u3.b : Nat), p16 := (u3.p : Nat) })] (.bool false) (by rfl) (by go_simp) (by have q := on_is3 { x3 with p13 := (u3.r : Nat), p14 := (u3.c : Nat), p15 := (u3.b : Nat), p16 := (u3.p : Nat) } false HON.out wr; exact q) (py (h := ?_))
               intro w111 K111
               refine wz1 (.bool false) (h := wk (h := wk (h := wk (h := wk (h := wz2 (.bool false) (.bool false) (h1 := by exact run_pick_no (.tmp 201) (.tmp 205) (.const (.bool false)) _ rfl rfl rfl) (h := nz ?_))))))
               have hk4b : (k4 : Int) < 3 := by have q := HL4.out; omega
               go_wp2_with fail
               go_roundw
               case rel => exact ⟨k4 + 1, HL4.out, by go_num, K111.out⟩
               case measure => have q := HL4.out; show (3 - intOf (Value.int IntKind.i64 ((k4 : Int) + 1))).toNat < (3 - intOf (Value.int IntKind.i64 (k4 : Int))).toNat; simp [intOf]; omega
              case inl =>
               have HON := Lib.hid hon
               clear hon
               by_cases hs4 : (k4 : Int) ≤ x3.p11
               case pos =>
                have HS4 := Lib.hid hs4
                clear hs4
                obtain rfl : bm = 1 := by have q := HBI.out; have q2 := HON.out; have q3 := HS4.out; exact q.2 ⟨q2, q3⟩
                refine lz (wz4 (.int .u32 (bz : Nat)) (.int .u32 1) (.bool true) (.agg (poA { x3 with p13 := (u3.r : Nat), p14 := (u3.c : Nat), p15 := (u3.b : Nat), p16 := (u3.p : Nat) })) (h2 := by have q := HBL.out; have q2 := HBM.out; go_simp; try rfl) (h4 := by exact kx_all KV.out 5 rfl 73 _ rfl rfl Tryd.underlying73 rfl (size50)) (h := ?_))
                refine kx_call KV.out 20 #[.agg (poA { x3 with p13 := (u3.r : Nat), p14 := (u3.c : Nat), p15 := (u3.b : Nat), p16 := (u3.p : Nat) })] (.bool true) (by rfl) (by go_simp) (by have q := on_is3 { x3 with p13 := (u3.r : Nat), p14 := (u3.c : Nat), p15 := (u3.b : Nat), p16 := (u3.p : Nat) } true HON.out wr; exact q) (py (h := ?_))
                intro w111 K111
                refine wz6 (.bool true) (pT b71 11) (iV x3.p11) (iV (k4 : Nat)) (.bool true) (.bool true) (h3 := by have q : w111.cell? ⟨b71, 11, none⟩ = some (iV x3.p11) := K111.out.cell (i := 5) rfl (by rfl); go_simp) (h5 := by have q := HS4.out; go_simp; try omega) (h6 := by exact run_pick_yes (.tmp 201) (.tmp 205) (.const (.bool false)) _ rfl rfl rfl) (h := wz1 (.bool false) (h := nz ?_))
                have hk4b : (k4 : Int) < 3 := by have q := HL4.out; omega
                go_wp2_with fail
                go_roundw
                case rel => exact ⟨k4 + 1, HL4.out, by go_num, K111.out⟩
                case measure => have q := HL4.out; show (3 - intOf (Value.int IntKind.i64 ((k4 : Int) + 1))).toNat < (3 - intOf (Value.int IntKind.i64 (k4 : Int))).toNat; simp [intOf]; omega
               case neg =>
                have HS4 := Lib.hid hs4
                clear hs4
                obtain rfl : bm = 0 := by have q := HBI.out; have q2 := HON.out; have q3 := HS4.out; by_cases c : bm = 1; exact absurd (q.1 c).2 q3; omega
                refine lz (wz4 (.int .u32 (bz : Nat)) (.int .u32 0) (.bool false) (.agg (poA { x3 with p13 := (u3.r : Nat), p14 := (u3.c : Nat), p15 := (u3.b : Nat), p16 := (u3.p : Nat) })) (h2 := by have q := HBL.out; have q2 := HBM.out; go_simp; try rfl) (h4 := by exact kx_all KV.out 5 rfl 73 _ rfl rfl Tryd.underlying73 rfl (size50)) (h := ?_))
                refine kx_call KV.out 20 #[.agg (poA { x3 with p13 := (u3.r : Nat), p14 := (u3.c : Nat), p15 := (u3.b : Nat), p16 := (u3.p : Nat) })] (.bool true) (by rfl) (by go_simp) (by have q := on_is3 { x3 with p13 := (u3.r : Nat), p14 := (u3.c : Nat), p15 := (u3.b : Nat), p16 := (u3.p : Nat) } true HON.out wr; exact q) (py (h := ?_))
                intro w111 K111
                refine wz6 (.bool true) (pT b71 11) (iV x3.p11) (iV (k4 : Nat)) (.bool false) (.bool false) (h3 := by have q : w111.cell? ⟨b71, 11, none⟩ = some (iV x3.p11) := K111.out.cell (i := 5) rfl (by rfl); go_simp) (h5 := by have q := HS4.out; go_simp; try omega) (h6 := by exact run_pick_yes (.tmp 201) (.tmp 205) (.const (.bool false)) _ rfl rfl rfl) (h := wz1 (.bool false) (h := nz ?_))
                have hk4b : (k4 : Int) < 3 := by have q := HL4.out; omega
                go_wp2_with fail
                go_roundw
                case rel => exact ⟨k4 + 1, HL4.out, by go_num, K111.out⟩
                case measure => have q := HL4.out; show (3 - intOf (Value.int IntKind.i64 ((k4 : Int) + 1))).toNat < (3 - intOf (Value.int IntKind.i64 (k4 : Int))).toNat; simp [intOf]; omega)
    rcases HQC.out with rfl | rfl | rfl | hq3
    next =>
     as_aux_lemma =>
      refine lz (wz2 (.bool true) (.bool true) (h := nz ?_))
      go_upto_region 13 with fail
      refine lz (wz1 (.agg (stA s v1 v2 v3 v4)) (h1 := by exact kx_all K32.out 1 rfl 40 _ rfl rfl Tryd.underlying40 rfl (size41)) (h := ?_))
      have HTK := Lib.hid (tick_any (w := w32) (s := s) K32.out.a (HRL.out.fr (F := fun _ => False) (Mv.of_below K32.out.below) (fun e => e)) (by have := HIV.out.few; omega) HIV.out.id (fun k x hx => (PreL.map (t := ⟨s, [], []⟩) HIV.out.ro.pre (fun k x hx => pre_fade hx) k x hx).ok))
      refine wpList_callx4 12 #[stV s v1 v2 v3 v4] (fun v w9 => ∃ u1 u2 u3 u4 tv fv, v = .tuple #[stV (tickM s).s u1 u2 u3 u4, .agg #[tv, fv]] ∧ Left w32 (tickM s) u1 u2 u3 u4 tv fv w9) (by rfl) (by go_simp) ((HTK.out).mono fun e w9 ⟨u1, u2, u3, u4, tv, fv, q1, q2⟩ => ⟨_, q1, u1, u2, u3, u4, tv, fv, rfl, q2⟩) ?_
      rintro v w19 ⟨c1, c2, c3, c4, tw, fw, rfl, hL⟩
      (try simp only [Act.put, gA, gS, gZ, sA, sZ, sS])
      have HS7 := Lib.hid (show (stA (tickM s).s c1 c2 c3 c4).all (·.oneCell') = true from st_one hL.own)
      have K19 := Lib.hid (show Kx w [(b1, sgA x (.slice a n m), 25), (b10, stA s v1 v2 v3 v4, 40), (b11, #[tv, fv], 49), (b31, acA y, 56)] (bdS w32.heap.size (tickM s).s c1 c2 c3 c4) w19 from K32.out.renew hL.below hL.own (fun k hk => bdS_new hL.own k hk))
      clear hL
      refine wz3 (.tuple #[.agg (stA (tickM s).s c1 c2 c3 c4), .agg #[tw, fw]]) (.agg (stA (tickM s).s c1 c2 c3 c4)) (.agg (#[tw, fw])) (h := ?_)
      refine kx_row K19.out 1 rfl 40 _ _ (stA (tickM s).s c1 c2 c3 c4) rfl rfl rfl rfl (size41) (by rfl) (HS7.out) (py (h := ?_))
      intro w20 K20
      refine wpList_nil ?_
      go_wp2_with fail
      exact REST.out (tickM s).s c1 c2 c3 c4 _ _ _ _ _ _ _ _ _ _ _ _ _ _ _ _ _ _ _ _ _ _ _ _ _ _ _ _ _ _ _ _ _ _ (tick_iv HIV.out) (K20.out)
    next =>
     as_aux_lemma =>
      refine lz (wz2 (.bool false) (.bool false) (h := nz ?_))
      go_upto_region 12 with fail
      refine lz (wz2 (.bool true) (.bool true) (h := nz ?_))
      go_upto_region 13 with fail
      refine lz (wz1 (.agg (stA s v1 v2 v3 v4)) (h1 := by exact kx_all K32.out 1 rfl 40 _ rfl rfl Tryd.underlying40 rfl (size41)) (h := ?_))
      have HTK := Lib.hid (tick_any (w := w32) (s := s) K32.out.a (HRL.out.fr (F := fun _ => False) (Mv.of_below K32.out.below) (fun e => e)) (by have := HIV.out.few; omega) HIV.out.id (fun k x hx => (PreL.map (t := ⟨s, [], []⟩) HIV.out.ro.pre (fun k x hx => pre_fade hx) k x hx).ok))
      refine wpList_callx4 12 #[stV s v1 v2 v3 v4] (fun v w9 => ∃ u1 u2 u3 u4 tv fv, v = .tuple #[stV (tickM s).s u1 u2 u3 u4, .agg #[tv, fv]] ∧ Left w32 (tickM s) u1 u2 u3 u4 tv fv w9) (by rfl) (by go_simp) ((HTK.out).mono fun e w9 ⟨u1, u2, u3, u4, tv, fv, q1, q2⟩ => ⟨_, q1, u1, u2, u3, u4, tv, fv, rfl, q2⟩) ?_
      rintro v w19 ⟨c1, c2, c3, c4, tw, fw, rfl, hL⟩
      (try simp only [Act.put, gA, gS, gZ, sA, sZ, sS])
      have HS7 := Lib.hid (show (stA (tickM s).s c1 c2 c3 c4).all (·.oneCell') = true from st_one hL.own)
      have K19 := Lib.hid (show Kx w [(b1, sgA x (.slice a n m), 25), (b10, stA s v1 v2 v3 v4, 40), (b11, #[tv, fv], 49), (b31, acA y, 56)] (bdS w32.heap.size (tickM s).s c1 c2 c3 c4) w19 from K32.out.renew hL.below hL.own (fun k hk => bdS_new hL.own k hk))
      clear hL
      refine wz3 (.tuple #[.agg (stA (tickM s).s c1 c2 c3 c4), .agg #[tw, fw]]) (.agg (stA (tickM s).s c1 c2 c3 c4)) (.agg (#[tw, fw])) (h := ?_)
      refine kx_row K19.out 1 rfl 40 _ _ (stA (tickM s).s c1 c2 c3 c4) rfl rfl rfl rfl (size41) (by rfl) (HS7.out) (py (h := ?_))
      intro w20 K20
      refine wpList_nil ?_
      go_wp2_with fail
      exact REST.out (tickM s).s c1 c2 c3 c4 _ _ _ _ _ _ _ _ _ _ _ _ _ _ _ _ _ _ _ _ _ _ _ _ _ _ _ _ _ _ _ _ _ _ (tick_iv HIV.out) (K20.out)
    next =>
     as_aux_lemma =>
      refine lz (wz2 (.bool false) (.bool false) (h := nz ?_))
      go_upto_region 12 with fail
      refine lz (wz2 (.bool false) (.bool false) (h := nz ?_))
      go_upto_region 14 with fail
      refine lz (wz2 (.bool true) (.bool true) (h := nz ?_))
      go_upto_region 15 with fail
      refine lz (wz6 (.agg (stA s v1 v2 v3 v4)) (iV (p : Nat)) (pT b31 4) (pT b31 4) (.bool y.f0) (pT b31 4) (h1 := by exact kx_all K32.out 1 rfl 40 _ rfl rfl Tryd.underlying40 rfl (size41)) (h5 := by have q : w32.cell? ⟨b31, 4, none⟩ = some (.bool y.f0) := K32.out.cell (i := 3) rfl (by rfl); go_simp) (h := wz2 (pT b31 7) (.bool y.f3) (h2 := by have q : w32.cell? ⟨b31, 7, none⟩ = some (.bool y.f3) := K32.out.cell (i := 3) rfl (by rfl); go_simp) (h := ?_)))
      have HTK := Lib.hid (switch_call (w := w32) (s := s) (p : Int) y.f0 y.f3 K32.out.a (HRL.out.fr (F := fun _ => False) (Mv.of_below K32.out.below) (fun e => e)) (by have := HIV.out.few; omega) HIV.out.id HIV.out.ok (by have := HPP.out.2; omega))
      refine wpList_callx4 14 #[stV s v1 v2 v3 v4, .int .i64 (p : Nat), .bool y.f0, .bool y.f3] (fun v w9 => ∃ u1 u2 u3 u4 tv fv, v = .tuple #[stV (switchC s (p : Int) y.f0 y.f3).s u1 u2 u3 u4, .agg #[tv, fv]] ∧ Left w32 (switchC s (p : Int) y.f0 y.f3) u1 u2 u3 u4 tv fv w9) (by rfl) (by go_simp) ((HTK.out).mono fun e w9 ⟨u1, u2, u3, u4, tv, fv, q1, q2⟩ => ⟨_, q1, u1, u2, u3, u4, tv, fv, rfl, q2⟩) ?_
      rintro v w19 ⟨c1, c2, c3, c4, tw, fw, rfl, hL⟩
      (try simp only [Act.put, gA, gS, gZ, sA, sZ, sS])
      have HS7 := Lib.hid (show (stA (switchC s (p : Int) y.f0 y.f3).s c1 c2 c3 c4).all (·.oneCell') = true from st_one hL.own)
      have K19 := Lib.hid (show Kx w [(b1, sgA x (.slice a n m), 25), (b10, stA s v1 v2 v3 v4, 40), (b11, #[tv, fv], 49), (b31, acA y, 56)] (bdS w32.heap.size (switchC s (p : Int) y.f0 y.f3).s c1 c2 c3 c4) w19 from K32.out.renew hL.below hL.own (fun k hk => bdS_new hL.own k hk))
      clear hL
      refine wz3 (.tuple #[.agg (stA (switchC s (p : Int) y.f0 y.f3).s c1 c2 c3 c4), .agg #[tw, fw]]) (.agg (stA (switchC s (p : Int) y.f0 y.f3).s c1 c2 c3 c4)) (.agg (#[tw, fw])) (h := ?_)
      refine kx_row K19.out 1 rfl 40 _ _ (stA (switchC s (p : Int) y.f0 y.f3).s c1 c2 c3 c4) rfl rfl rfl rfl (size41) (by rfl) (HS7.out) (py (h := ?_))
      intro w20 K20
      refine wpList_nil ?_
      go_wp2_with fail
      exact REST.out (switchC s (p : Int) y.f0 y.f3).s c1 c2 c3 c4 _ _ _ _ _ _ _ _ _ _ _ _ _ _ _ _ _ _ _ _ _ _ _ _ _ _ _ _ _ _ _ _ _ _ (switch_iv HIV.out _ _ _) (K20.out)
    next =>
     as_aux_lemma =>
      have HQ3 := Lib.hid (show ¬ (q : Int) = 0 ∧ ¬ (q : Int) = 1 ∧ ¬ (q : Int) = 2 by omega)
      clear hq3
      refine lz (wz2 (.bool false) (.bool false) (h1 := by have qq := HQ3.out.1; go_simp; try omega) (h := nz ?_))
      go_upto_region 12 with fail
      refine lz (wz2 (.bool false) (.bool false) (h1 := by have qq := HQ3.out.2.1; go_simp; try omega) (h := nz ?_))
      go_upto_region 14 with fail
      refine lz (wz2 (.bool false) (.bool false) (h1 := by have qq := HQ3.out.2.2; go_simp; try omega) (h := nz ?_))
      go_upto_region 10 with fail
      refine rk (fun (s6 : Value × Value × Value × Value × Value × Value) => [stV s v1 v2 v3 v4, iV (p : Nat), .agg (acA y), stV s v1 v2 v3 v4, iV (p : Nat), pdV (pdU (pduQ y) (pduV y s (p : Int))), .tuple #[stV (hearC s (p : Int) (pduQ y) (pduV y s (p : Int))).s s6.1 s6.2.1 s6.2.2.1 s6.2.2.2.1, .agg #[s6.2.2.2.2.1, s6.2.2.2.2.2]], .tuple #[stV (hearC s (p : Int) (pduQ y) (pduV y s (p : Int))).s s6.1 s6.2.1 s6.2.2.1 s6.2.2.2.1, .agg #[s6.2.2.2.2.1, s6.2.2.2.2.2]], stV (hearC s (p : Int) (pduQ y) (pduV y s (p : Int))).s s6.1 s6.2.1 s6.2.2.1 s6.2.2.2.1, .agg #[s6.2.2.2.2.1, s6.2.2.2.2.2], undef]) (fun s6 Lx w' => (Lx 6 = false ∧ Kx w [(b1, sgA x (.slice a n m), 25), (b10, stA s v1 v2 v3 v4, 40), (b11, #[tv, fv], 49), (b31, acA y, 56)] (bdS B s v1 v2 v3 v4) w') ∨ (Lx 6 = true ∧ ∃ B' : Nat, (stA (hearC s (p : Int) (pduQ y) (pduV y s (p : Int))).s s6.1 s6.2.1 s6.2.2.1 s6.2.2.2.1).all (·.oneCell') = true ∧ Kx w [(b1, sgA x (.slice a n m), 25), (b10, bif Lx 10 then stA (hearC s (p : Int) (pduQ y) (pduV y s (p : Int))).s s6.1 s6.2.1 s6.2.2.1 s6.2.2.2.1 else stA s v1 v2 v3 v4, 40), (b11, #[tv, fv], 49), (b31, acA y, 56)] (bdS B' (hearC s (p : Int) (pduQ y) (pduV y s (p : Int))).s s6.1 s6.2.1 s6.2.2.1 s6.2.2.2.1) w')) (undef, undef, undef, undef, undef, undef) [] [] [(0, fun _ => [(5, pT b10 0)]), (2, fun _ => [(8, pT b31 0)]), (3, fun _ => [(5, pT b10 0)]), (5, fun _ => [(52, .agg (acA y)), (53, stV s v1 v2 v3 v4), (54, iV (p : Nat))]), (6, fun _ => [(50, stV s v1 v2 v3 v4), (51, iV (p : Nat)), (55, pdV (pdU (pduQ y) (pduV y s (p : Int))))]), (10, fun s6 => [(57, stV (hearC s (p : Int) (pduQ y) (pduV y s (p : Int))).s s6.1 s6.2.1 s6.2.2.1 s6.2.2.2.1), (5, pT b10 0)])] [6, 10] (.inl ⟨rfl, K32.out.drew⟩) (fun _ _ _ _ => trivial) (fun _ L1 L2 _ e h => by (try dsimp only at h ⊢); rw [← e 6 (by decide), ← e 10 (by decide)]; exact h) ?_ ?_
      ·
       refine ⟨?_, ?_, ?_, ?_, ?_, ?_, trivial⟩ <;> (rintro ⟨c1, c2, c3, c4, c5, c6⟩ Lx w' hw hL haft hdc ρ hc hf hG hs o ho; cases ho; try dsimp only [pT, iV, seen] at hw hs)
       ·
        obtain ⟨e5, _⟩ := hs
        rcases hw with ⟨h6, hw⟩ | ⟨h6, -⟩
        case inr => exact absurd (hdc 6 h6 0 (by decide)) (by rw [hL]; decide)
        exact sw (stV s v1 v2 v3 v4) (l_var 40 _ rfl _ e5 _ _ _ (Kx.at (i := 1) hw rfl) Tryd.underlying40 rfl size41) ⟨_, fun _ _ => rfl, rfl, .inl ⟨h6, hw⟩⟩
       ·
        obtain ⟨e8, _⟩ := hs
        rcases hw with ⟨h6, hw⟩ | ⟨h6, -⟩
        case inr => exact absurd (hdc 5 (hdc 6 h6 5 (by decide)) 2 (by decide)) (by rw [hL]; decide)
        exact sw (.agg (acA y)) (l_var 56 _ rfl _ e8 _ _ _ (Kx.at (i := 3) hw rfl) Tryd.underlying56 rfl sizeAc) ⟨_, fun _ _ => rfl, rfl, .inl ⟨h6, hw⟩⟩
       ·
        obtain ⟨e5, _⟩ := hs
        rcases hw with ⟨h6, hw⟩ | ⟨h6, -⟩
        case inr => exact absurd (hdc 5 (hdc 6 h6 5 (by decide)) 3 (by decide)) (by rw [hL]; decide)
        exact sw (stV s v1 v2 v3 v4) (l_var 40 _ rfl _ e5 _ _ _ (Kx.at (i := 1) hw rfl) Tryd.underlying40 rfl size41) ⟨_, fun _ _ => rfl, rfl, .inl ⟨h6, hw⟩⟩
       ·
        rcases hw with ⟨h6, hw⟩ | ⟨h6, -⟩
        case inr => exact absurd (hdc 6 h6 5 (by decide)) (by rw [hL]; decide)
        exact sc (pdV (pdU (pduQ y) (pduV y s (p : Int)))) 16 #[.agg (acA y), stV s v1 v2 v3 v4, iV (p : Nat)] (pduOf_any y (p : Int) hw.a (by have := HIV.out.few; omega) HIV.out.ok HYO.out (by have := HPP.out.2; omega)) (by go_simp) (fun w2 hb => ⟨_, fun _ _ => rfl, rfl, .inl ⟨h6, hw.next hb⟩⟩)
       ·
        rcases hw with ⟨h6, hw⟩ | ⟨h6, -⟩
        case inr => rw [hL] at h6; cases h6
        have h7 : Lx 7 = false := by cases cq : Lx 7; rfl; exact absurd (hdc 7 cq 6 (by decide)) (by rw [hL]; decide)
        have h8 : Lx 8 = false := by cases cq : Lx 8; rfl; exact absurd (hdc 7 (hdc 8 cq 7 (by decide)) 6 (by decide)) (by rw [hL]; decide)
        have h9 : Lx 9 = false := by cases cq : Lx 9; rfl; exact absurd (hdc 7 (hdc 9 cq 7 (by decide)) 6 (by decide)) (by rw [hL]; decide)
        have h10 : Lx 10 = false := by cases cq : Lx 10; rfl; exact absurd (hdc 7 (hdc 8 (hdc 10 cq 8 (by decide)) 7 (by decide)) 6 (by decide)) (by rw [hL]; decide)
        refine stepW_call (f := 17) (args := #[stV s v1 v2 v3 v4, .int .i64 (p : Nat), pdV (pdU (pduQ y) (pduV y s (p : Int)))]) (by go_simp) ((hear_call (p : Int) (pduQ y) (pduV y s (p : Int)) hw.a (HRL.out.fr (F := fun _ => False) (Mv.of_below hw.below) (fun e => e)) (by have := HIV.out.few; omega) HIV.out.id HIV.out.ok (pduV_ok HIV.out.ok) (by have := HPP.out.2; omega)).mono ?_)
        rintro e w9 ⟨u1, u2, u3, u4, tw, fw, q1, hLf⟩
        exact ⟨_, q1, (u1, u2, u3, u4, tw, fw), vs_outs [6, 7, 8, 9] rfl (by simp [hL, h7, h8, h9]), rfl, .inr ⟨by rfl, _, st_one hLf.own, by have q := hw.renew hLf.below hLf.own (fun k hk => bdS_new hLf.own k hk); show Kx w [_, (b10, bif Lx 10 then _ else _, 40), _, _] _ w9; rw [h10]; exact q⟩⟩
       ·
        obtain ⟨e57, e5, _⟩ := hs
        rcases hw with ⟨h6, -⟩ | ⟨h6, B9, ho, hw⟩
        case inl => rw [hdc 7 (hdc 8 (haft 8 (by decide)) 7 (by decide)) 6 (by decide)] at h6; cases h6
        have hw0 : Kx w [(b1, sgA x (.slice a n m), 25), (b10, stA s v1 v2 v3 v4, 40), (b11, #[tv, fv], 49), (b31, acA y, 56)] (bdS B9 (hearC s (p : Int) (pduQ y) (pduV y s (p : Int))).s c1 c2 c3 c4) w' := by rw [hL] at hw; exact hw
        exact sr 40 _ _ rfl b10 (stA (hearC s (p : Int) (pduQ y) (pduV y s (p : Int))).s c1 c2 c3 c4) e5 e57 40 (stA s v1 v2 v3 v4) (hw0.at (i := 1) rfl) size41 rfl ho ⟨_, fun _ _ => rfl, rfl, .inr ⟨h6, B9, ho, kx_cast (hw0.row (i := 1) rfl (stA (hearC s (p : Int) (pduQ y) (pduV y s (p : Int))).s c1 c2 c3 c4)) (by rfl)⟩⟩
      rintro ⟨c1, c2, c3, c4, tw, fw⟩ Lx w29 hw hall
      rcases hw with ⟨h6, -⟩ | ⟨-, B9, ho, hw⟩
      case inl => rw [hall 6 (by decide)] at h6; cases h6
      try dsimp only at hw
      simp only [pT, iV, List.toList_toArray, putsZ_some, putsZ_none, putsZ_nil, List.setIfInBounds_toArray, List.set_cons_zero, List.set_cons_succ]
      rw [hall 10 (by decide)] at hw
      simp only [cond_true] at hw
      have K29 := Lib.hid hw
      clear hw hall
      go_wp2_with fail
      exact REST.out (hearC s (p : Int) (pduQ y) (pduV y s (p : Int))).s c1 c2 c3 c4 _ _ _ _ _ _ _ _ _ _ _ _ _ _ _ _ _ _ _ _ _ _ _ _ _ _ _ _ _ _ _ _ _ _ (hear_iv HIV.out _ _ (pduV_ok HIV.out.ok)) (K29.out)
end
end Go.Proofs.YteeinlbhcdpnnaaDoor
