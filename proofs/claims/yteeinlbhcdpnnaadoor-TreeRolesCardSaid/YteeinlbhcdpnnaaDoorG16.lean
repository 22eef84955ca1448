import Derived.Test.YteeinlbhcdpnnaaDoorG4
import Derived.Test.YteeinlbhcdpnnaaDoorG2
import Derived.Test.YteeinlbhcdpnnaaDoorG15
import Derived.Test.YteeinlbhcdpnnaaDoorG14
set_option linter.unusedSimpArgs false
set_option linter.unusedVariables false
namespace Go.Proofs.YteeinlbhcdpnnaaDoor
section
open Go.RowKit
attribute [local irreducible] wpQuiet wpList
structure ChAS (b n m g k cN iN : Nat) (y : Po) (u : Vc) (on hd : Bool) (qa : Option Addr) (ra : Nat) (t : TS) (b2 : Nat) (f1 f5 f6 f7 f8 f9 f10 f11 f40 f41 f42 f43 f44 f45 f46 f47 f48 f49 f50 f51 f52 f53 f54 f55 f56 f57 f58 f59 f60 f61 f62 f63 f64 f65 f66 f67 f68 f69 f70 f71 f72 f73 f74 f75 f76 f77 f78 f79 f80 f81 f82 f83 f84 f85 f86 f87 f88 f89 f90 f91 f92 f93 f94 f95 f96 f97 f98 f99 f100 f101 : Value) (L : Nat → Bool) (v23 v24 v25 v26 v27 v28 v29 v30 v31 v32 v33 v34 v35 v36 v37 v38 v39 : Value) : Prop where
 e23 : L 0 = true → v23 = .slice qa k ra
 e24 : L 1 = true → v24 = .agg (poA { y with p3 := (cN : Nat), p13 := (u.r : Nat), p14 := (u.c : Nat), p15 := (u.b : Nat), p16 := (u.p : Nat) })
 e25 : L 2 = true → v25 = .bool on
 e26 : L 3 = true → v26 = .pointer (some ⟨b2, 12, none⟩)
 e27 : L 4 = true → v27 = .int .i64 y.p12
 e28 : L 5 = true → v28 = .bool hd
 e29 : L 6 = true → v29 = .pointer (some ⟨b2, 13, none⟩)
 e30 : L 7 = true → v30 = .agg (vcA u)
 e31 : L 8 = true → v31 = .pointer (some ⟨b2, 3, none⟩)
 e32 : L 9 = true → v32 = .int .u32 (cN : Nat)
 e33 : L 10 = true → v33 = .agg (poA { y with p3 := (cN : Nat), p13 := (u.r : Nat), p14 := (u.c : Nat), p15 := (u.b : Nat), p16 := (u.p : Nat) })
 e34 : L 11 = true → v34 = .int .i64 (k : Nat)
 e35 : L 12 = true → v35 = .int .i64 ((k : Int) + 1)
 e36 : L 13 = true → v36 = .int .u16 (iN : Nat)
 e37 : L 14 = true → v37 = .agg (rpA ⟨on, hd, u, cN, iN⟩)
abbrev ChAF (b n m g k cN iN : Nat) (y : Po) (u : Vc) (on hd : Bool) (qa : Option Addr) (ra : Nat) (t : TS) (b2 : Nat) (f1 f5 f6 f7 f8 f9 f10 f11 f40 f41 f42 f43 f44 f45 f46 f47 f48 f49 f50 f51 f52 f53 f54 f55 f56 f57 f58 f59 f60 f61 f62 f63 f64 f65 f66 f67 f68 f69 f70 f71 f72 f73 f74 f75 f76 f77 f78 f79 f80 f81 f82 f83 f84 f85 f86 f87 f88 f89 f90 f91 f92 f93 f94 f95 f96 f97 f98 f99 f100 f101 : Value) (v23 v24 v25 v26 v27 v28 v29 v30 v31 v32 v33 v34 v35 v36 v37 v38 v39 : Value) : Act := { tmps := #[.pointer (some ⟨b, 0, none⟩), f1, .slice qa k ra, .int .i64 (k : Nat), .pointer (some ⟨b2, 0, none⟩), f5, f6, f7, f8, f9, f10, f11, .pointer (some ⟨b, 0, none⟩), .pointer (some ⟨b, 0, none⟩), .pointer (some ⟨b, 0, none⟩), .pointer (some ⟨b, 6, none⟩), .slice (some ⟨g, 0, none⟩) n m, .int .i64 (n : Nat), .int .i64 (k : Nat), .bool true, .int .i64 (k : Nat), .pointer (some ⟨g, k * 21, none⟩), .agg (poA { y with p3 := (cN : Nat), p13 := (u.r : Nat), p14 := (u.c : Nat), p15 := (u.b : Nat), p16 := (u.p : Nat) }), v23, v24, v25, v26, v27, v28, v29, v30, v31, v32, v33, v34, v35, v36, v37, v38, v39, f40, f41, f42, f43, f44, f45, f46, f47, f48, f49, f50, f51, f52, f53, f54, f55, f56, f57, f58, f59, f60, f61, f62, f63, f64, f65, f66, f67, f68, f69, f70, f71, f72, f73, f74, f75, f76, f77, f78, f79, f80, f81, f82, f83, f84, f85, f86, f87, f88, f89, f90, f91, f92, f93, f94, f95, f96, f97, f98, f99, f100, f101], defers := [] }
def ChAI (b n m g k cN iN : Nat) (y : Po) (u : Vc) (on hd : Bool) (qa : Option Addr) (ra : Nat) (t : TS) (b2 : Nat) (f1 f5 f6 f7 f8 f9 f10 f11 f40 f41 f42 f43 f44 f45 f46 f47 f48 f49 f50 f51 f52 f53 f54 f55 f56 f57 f58 f59 f60 f61 f62 f63 f64 f65 f66 f67 f68 f69 f70 f71 f72 f73 f74 f75 f76 f77 f78 f79 f80 f81 f82 f83 f84 f85 f86 f87 f88 f89 f90 f91 f92 f93 f94 f95 f96 f97 f98 f99 f100 f101 : Value) (B0 : Nat) (w1 : World) (L : Nat → Bool) (ac : Act) (w : World) : Prop :=
 ∃ v23 v24 v25 v26 v27 v28 v29 v30 v31 v32 v33 v34 v35 v36 v37 v38 v39, ac = ChAF b n m g k cN iN y u on hd qa ra t b2 f1 f5 f6 f7 f8 f9 f10 f11 f40 f41 f42 f43 f44 f45 f46 f47 f48 f49 f50 f51 f52 f53 f54 f55 f56 f57 f58 f59 f60 f61 f62 f63 f64 f65 f66 f67 f68 f69 f70 f71 f72 f73 f74 f75 f76 f77 f78 f79 f80 f81 f82 f83 f84 f85 f86 f87 f88 f89 f90 f91 f92 f93 f94 f95 f96 f97 f98 f99 f100 f101 v23 v24 v25 v26 v27 v28 v29 v30 v31 v32 v33 v34 v35 v36 v37 v38 v39 ∧ ChAS b n m g k cN iN y u on hd qa ra t b2 f1 f5 f6 f7 f8 f9 f10 f11 f40 f41 f42 f43 f44 f45 f46 f47 f48 f49 f50 f51 f52 f53 f54 f55 f56 f57 f58 f59 f60 f61 f62 f63 f64 f65 f66 f67 f68 f69 f70 f71 f72 f73 f74 f75 f76 f77 f78 f79 f80 f81 f82 f83 f84 f85 f86 f87 f88 f89 f90 f91 f92 f93 f94 f95 f96 f97 f98 f99 f100 f101 L v23 v24 v25 v26 v27 v28 v29 v30 v31 v32 v33 v34 v35 v36 v37 v38 v39 ∧ ApW w1 B0 76 8 rpC (.slice qa k ra) (rpTo t.s.po k) ⟨on, hd, u, cN, iN⟩ (L 15) (L 16) v38 v39 w
set_option maxRecDepth 100000 in
set_option maxHeartbeats 8000000 in
theorem chooseM_any {T b n m : Nat} {a : Option Addr} {v2 v3 v4 tv fv : Value} {t : TS} {w : World} (h : Tact w ⟨T, b, a, n, m, v2, v3, v4⟩ tv fv t) (hok : ∀ (k : Nat) (x : Po), t.s.po[k]? = some x → okP x) (hid : 0 ≤ t.s.cf.p0 ∧ t.s.cf.p0 < 18446744073709551616) (hfl : t.fl.length + (n + 1) * n ≤ 1000) (htl : t.told.length + n ≤ 1000) : Calls Tryd.prog 31 #[.pointer (some ⟨b, 0, none⟩)] w fun e w' => e = .returned (.tuple #[]) ∧ Done w ⟨T, b, a, n, m, v2, v3, v4⟩ tv fv (chooseM t) w' := by
 obtain ⟨tF, htF⟩ : ∃ z, z = chooseM t := ⟨_, rfl⟩
 rw [← htF]
 have HTF := Lib.hid htF
 obtain ⟨F, hF⟩ : ∃ F, F = foot ⟨T, b, a, n, m, v2, v3, v4⟩ tv fv := ⟨_, rfl⟩
 have HF := Lib.hid hF
 have K0 := Lib.hid (show Ta ⟨w, ⟨T, b, a, n, m, v2, v3, v4⟩, F⟩ [] t w from hF ▸ h.start)
 have HID := Lib.hid hid
 have HFL := Lib.hid hfl
 have HTL := Lib.hid htl
 clear htF hF hid hfl htl
 have LEN := Lib.hid h.len
 have HT := Lib.hid h.ready
 have HFW := Lib.hid h.few
 have HOK := Lib.hid hok
 have K := Lib.hid (Kb.nil w)
 clear h hok
 go_enter Tryd.func31, Tryd.ntmps31
 go_upto_region 0 with fail
 refine lz (wz1 (.slice none 0 0) (h := nz ?_))
 go_upto_region 1 with fail
 refine lz (wz6 (pT b 0) (pT b 0) (pT b 0) (pT b 6) (.slice a n m) (iV (n : Nat)) (h5 := by have q : w.cell? ⟨b, 6, none⟩ = some (.slice a n m) := (HT.out _ K.out.below).acell 6 rfl; go_simp) (h := wz1 (iV 0) (h := nz ?_)))
 go_upto_region 2 with fail
 go_loopw [2, 18] (fun cu i wr => ∃ (k : Nat) (qa : Option Addr) (ra : Nat), k ≤ n ∧ i = .int .i64 k ∧ cu = .slice qa k ra ∧ Kb w [] wr ∧ Own wr w.heap.size 76 8 rpC (.slice qa k ra) (rpTo t.s.po k)) (fun _ i _ => (n - intOf i).toNat)
 case atStart => exact ⟨0, none, 0, Nat.zero_le _, rfl, rfl, K.out, Own.nil _ _ _ _ _⟩
 case round =>
  obtain ⟨k, qa, ra, hk, rfl, rfl, hK, hO⟩ := hrel
  have KR := Lib.hid hK
  have HO := Lib.hid hO
  have HK := Lib.hid hk
  clear hK hO hk
  have i1 : (n : Int) ≤ 100 := by have q1 : n = t.s.po.length := LEN.out.1; have q2 := HFW.out; omega
  by_cases hlt : k < n
  case neg =>
   have HLT := Lib.hid hlt
   clear hlt
   go_upto_region 2 with fail
   refine lz (wz1 (.bool false) (h1 := by have q := HLT.out; go_simp) (h := nz ?_))
   have hnk : n = k := by have q1 := HK.out; have q2 := HLT.out; omega
   subst hnk
   have KA1 := Lib.hid (show Ta ⟨w, ⟨T, b, a, n, m, v2, v3, v4⟩, F⟩ [] t wr from K0.out.next KR.out.below)
   go_upto_region 6 with fail
   have HSF := Lib.hid (show t.s.cf.p0 = ((selfN t : Nat) : Int) from (Int.toNat_of_nonneg HID.out.1).symm)
   have HQR : rolesE (selfN t) (rootN (selfN t) (bestU (selfN t) (rpTo t.s.po n) n)) (costN (selfN t) (bestU (selfN t) (rpTo t.s.po n) n)) (portN (selfN t) (bestU (selfN t) (rpTo t.s.po n) n)) (rpTo t.s.po n) n = rolesOf t := by rw [LEN.out.1]; rfl
   have HQT : tellsK (selfN t) (rootN (selfN t) (bestU (selfN t) (rpTo t.s.po n) n)) (costN (selfN t) (bestU (selfN t) (rpTo t.s.po n) n)) (rpTo t.s.po n) n = tellsOf t := by rw [LEN.out.1]; rfl
   have HCH := Lib.hid (choose_any (selfN t) (rpTo t.s.po n) n ra qa wr w.heap.size (rpTo_len n (Nat.le_of_eq LEN.out.1)) (KA1.out.few) HO.out (fun z hz => by obtain ⟨j, x, hx, rfl⟩ := rpTo_mem n z hz; exact rpN_ok (HOK.out j x hx) j))
   rw [HQR, HQT] at HCH
   clear HQR HQT
   obtain ⟨sf, hsf⟩ : ∃ z, z = selfN t := ⟨_, rfl⟩
   rw [← hsf] at HSF HCH
   clear hsf
   refine lz (wz6 (pT b 0) (pT b 0) (pT b 0) (pT b 0) (pT b 0) (.int .u64 (sf : Nat)) (h6 := by have q := KA1.out.acell 0 rfl; rw [HSF.out] at q; go_simp) (h := wz1 (.slice qa n ra) (h := ?_)))
   refine wpList_callx4 22 #[.int .u64 (sf : Nat), .slice qa n ra] (fun v w5 => ∃ R0 C0 P0 u1 u2, v = .agg (chA R0 C0 P0 u1 u2) ∧ Own w5 wr.heap.size 3 1 inC u1 (rolesOf t) ∧ Own w5 wr.heap.size 71 4 vcC u2 (tellsOf t) ∧ Below wr.heap.size wr w5) (by rfl) (by go_simp) (HCH.out.mono fun e w5 ⟨u1, u2, q1, q2, q3, q4⟩ => ⟨_, q1, _, _, _, u1, u2, rfl, q2, q3, q4⟩) ?_
   rintro v w5 ⟨R0, C0, P0, u1, u2, rfl, hO1, hO2, hB5⟩
   (try simp only [Act.put, gA, gS, gZ, sA, sZ, sS])
   have HONE := Lib.hid (one_ch (R := R0) (C := C0) (P := P0) hO1.oneCell hO2.oneCell)
   obtain ⟨lx, hlx⟩ := lx_of hO1 hO2
   have HLX := Lib.hid hlx
   have KA5 := Lib.hid (show Ta ⟨w, ⟨T, b, a, n, m, v2, v3, v4⟩, F⟩ lx t w5 from KA1.out.addL hB5 hlx.all hlx.nd)
   clear hlx hO1 hO2 hB5 HCH
   refine ta_alloc KA5.out 79 nilCh rfl z34c (by rfl) ?_
   intro b6 w6 hb6 hk6
   (try simp only [Act.put, gA, gS, gZ, sA, sZ, sS])
   refine ta_row hk6 lx.length (at_last _ _) 79 _ _ (chA R0 C0 P0 u1 u2) rfl rfl rfl rfl size34c (by rfl) HONE.out ?_
   intro w7 hk7
   (try simp only [Act.put, gA, gS, gZ, sA, sZ, sS])
   obtain ⟨s48, hs48⟩ : ∃ z, z = Value.agg (chA R0 C0 P0 u1 u2) := ⟨_, rfl⟩
   rw [← hs48]
   clear hs48
   refine wpList_nil ?_
   have KA7 := Lib.hid (show Ta ⟨w, ⟨T, b, a, n, m, v2, v3, v4⟩, F⟩ (lx ++ [(b6, chA R0 C0 P0 u1 u2, 79)]) t w7 from by have q := hk7; rw [set_last] at q; exact q)
   clear hk6 hk7 hb6
   go_upto_region 7 with fail
   refine wp_region_lit ?_
   refine ta_alloc KA7.out 138 nilM rfl zM (by rfl) ?_
   intro b7 w8 hb7 hk8
   (try simp only [Act.put, gA, gS, gZ, sA, sZ, sS])
   refine wpList_nil ?_
   have KM := Lib.hid (show Tm ⟨w, ⟨T, b, a, n, m, v2, v3, v4⟩, F⟩ (lx ++ [(b6, chA R0 C0 P0 u1 u2, 79)]) b7 [] [] t w8 from Tm.start hk8)
   have KA8 := Lib.hid KM.out.ta
   clear hk8 hb7
   go_upto_region 8 with fail
   refine lz (wz6 (pT b 0) (pT b 0) (pT b 0) (pT b 6) (.slice a n m) (iV (n : Nat)) (h5 := by have q : w8.cell? ⟨b, 6, none⟩ = some (.slice a n m) := KA8.out.acell 6 rfl; go_simp) (h := wz1 (iV 0) (h := nz ?_)))
   go_upto_region 9 with fail
   go_loopw [55] (fun i wr => ∃ k : Nat, k ≤ n ∧ i = .int .i64 k ∧ Tm ⟨w, ⟨T, b, a, n, m, v2, v3, v4⟩, F⟩ (lx ++ [(b6, chA R0 C0 P0 u1 u2, 79)]) b7 (castI (markTo (openF t) t.s.po k)) (castI (markTo (anewF t) t.s.po k)) (mapTo (asF t) t k) wr) (fun i _ => (n - intOf i).toNat)
   case atStart => exact ⟨0, Nat.zero_le _, rfl, KM.out⟩
   case round =>
    obtain ⟨k, hk, rfl, hK⟩ := hrel
    obtain ⟨t2, ht2⟩ : ∃ z, z = mapTo (asF t) t k := ⟨_, rfl⟩
    rw [← ht2] at hK
    have KT := Lib.hid hK
    have KR2 := Lib.hid hK.ta
    have HT2 := Lib.hid ht2
    have HK2 := Lib.hid hk
    have HC2 := Lib.hid (show t2.s.po.length = t.s.po.length ∧ t2.s.cf = t.s.cf ∧ t2.fl = t.fl ∧ t2.told = t.told by have q := mapTo_is (asF t) t k; rw [← ht2] at q; exact q)
    clear hK ht2 hk
    have i2 : (n : Int) ≤ 100 := by have q : n ≤ 100 := KR2.out.few; omega
    by_cases hlt : k < n
    case neg =>
     have HLT2 := Lib.hid hlt
     clear hlt
     go_upto_region 9 with fail
     refine lz (wz1 (.bool false) (h1 := by have q := HLT2.out; go_simp) (h := nz ?_))
     go_upto_region 16 with fail
     have hkn : n = k := by have q1 := HK2.out; have q2 := HLT2.out; omega
     obtain ⟨io, hio⟩ : ∃ z, z = markTo (openF t) t.s.po k := ⟨_, rfl⟩
     have HIO := Lib.hid (show (∀ i ∈ io, i < n) ∧ io.length ≤ n by rw [hio, hkn]; exact markTo_lt k)
     obtain ⟨ia, hia⟩ : ∃ z, z = markTo (anewF t) t.s.po k := ⟨_, rfl⟩
     have HIA := Lib.hid (show (∀ i ∈ ia, i < n) ∧ ia.length ≤ n by rw [hia, hkn]; exact markTo_lt k)
     obtain ⟨t5, ht5⟩ : ∃ z, z = foldT changedM t2 io io.length := ⟨_, rfl⟩
     have HT5 := Lib.hid ht5
     have HEF := Lib.hid (show tF = foldT tellM t5 ia ia.length by have q : n = t.s.po.length := LEN.out.1; rw [HTF.out, ht5, hio, hia, HT2.out]; unfold chooseM; rw [← q, hkn])
     have KE := Lib.hid (show Tm ⟨w, ⟨T, b, a, n, m, v2, v3, v4⟩, F⟩ (lx ++ [(b6, chA R0 C0 P0 u1 u2, 79)]) b7 (castI io) (castI ia) t2 wr from by rw [hio, hia]; exact KT.out)
     have HRO := Lib.hid (show ∀ (i : Nat) (x : Po), t5.s.po[i]? = some x → 0 ≤ x.p10 ∧ x.p10 ≤ 4 from fun i x hx => by
      have q1 := foldChanged_same t2 io io.length
      rw [← ht5] at q1
      have hl : i < t2.s.po.length := by rw [q1.1]; exact (List.getElem?_eq_some_iff.1 hx).1
      obtain ⟨x2, hx2⟩ : ∃ x, t2.s.po[i]? = some x := ⟨_, List.getElem?_eq_getElem hl⟩
      obtain ⟨y2, hy2, h2, e2⟩ := q1.2 i x2 hx2
      rw [hx] at hy2
      injection hy2 with hy2
      have q3 : x.p10 = x2.p10 := by rw [hy2, e2]; rfl
      have q4 := mapTo_get (asF t) t i k
      rw [← HT2.out, hx2, if_pos (by have q5 : n = t.s.po.length := LEN.out.1; have q6 := HC2.out.1; omega)] at q4
      cases c : t.s.po[i]? with
      | none => rw [c] at q4; cases q4
      | some z =>
       rw [c] at q4
       have q4 : some x2 = some (asF t i z) := q4
       injection q4 with q4
       have q7 : (asF t i z).p10 = (rolesOf t).getD i 0 := assume_role _ _ _ _ _
       rw [q3, q4, q7]
       exact rolesOf_is t i)
     have HF5 := Lib.hid (show t5.s.po.length = t.s.po.length ∧ t5.told = t.told by have q := foldChanged_is t2 io io.length; rw [← ht5] at q; exact ⟨q.1.trans HC2.out.1, q.2.2.2.trans HC2.out.2.2.2⟩)
     clear hkn hio hia ht5
     refine lz (wz2 (pT b 0) (.func (.func 59) #[pT b 0] #[]) (h := ?_))
     refine wpList_callT 58 #[.pointer (some ⟨b7, 0, none⟩), .int .i64 0, .func (.func 59) #[.pointer (some ⟨b, 0, none⟩)] #[]] (.tuple #[]) (fun w5 => Tm ⟨w, ⟨T, b, a, n, m, v2, v3, v4⟩, F⟩ (lx ++ [(b6, chA R0 C0 P0 u1 u2, 79)]) b7 (castI io) (castI ia) t5 w5) (by rfl) (by go_simp) ?_ ?_
     next =>
      rw [HT5.out]
      refine each0_any eg_changed KE.out rfl ?_
      intro jj i W5 tv5 fv5 hji ha
      have hjl : jj < io.length := (List.getElem?_eq_some_iff.1 hji).1
      have hin : i < n := HIO.out.1 i (List.mem_of_getElem? hji)
      have q1 : n = t.s.po.length := LEN.out.1
      have q0 := foldChanged_is t2 io jj
      obtain ⟨x5, hx5⟩ : ∃ x, (foldT changedM t2 io jj).s.po[i]? = some x := ⟨_, List.getElem?_eq_getElem (show i < (foldT changedM t2 io jj).s.po.length by rw [q0.1, HC2.out.1, ← q1]; exact hin)⟩
      refine changed_any ha hx5 ?_
      have q2 := q0.2.2.1
      rw [HC2.out.2.2.1, HC2.out.1, ← q1] at q2
      have q3 := HFL.out
      have q4 : jj * n ≤ n * n := Nat.mul_le_mul_right _ (by have := HIO.out.2; omega)
      have q5 : (n + 1) * n = n * n + n := Nat.succ_mul n n
      omega
     intro wa hT5
     have KE5 := Lib.hid hT5
     clear hT5
     (try simp only [Act.put, gA, gS, gZ, sA, sZ, sS])
     refine wpList_nil ?_
     go_upto_region 17 with fail
     refine lz (wz2 (pT b 0) (.func (.func 60) #[pT b 0] #[]) (h := ?_))
     refine wpList_callT 58 #[.pointer (some ⟨b7, 0, none⟩), .int .i64 1, .func (.func 60) #[.pointer (some ⟨b, 0, none⟩)] #[]] (.tuple #[]) (fun w5 => Tm ⟨w, ⟨T, b, a, n, m, v2, v3, v4⟩, F⟩ (lx ++ [(b6, chA R0 C0 P0 u1 u2, 79)]) b7 (castI io) (castI ia) tF w5) (by rfl) (by go_simp) ?_ ?_
     next =>
      rw [HEF.out]
      refine each1_any eg_tell KE5.out rfl ?_
      intro jj i W5 tv5 fv5 hji ha
      have hjl : jj < ia.length := (List.getElem?_eq_some_iff.1 hji).1
      have hin : i < n := HIA.out.1 i (List.mem_of_getElem? hji)
      have q1 : n = t.s.po.length := LEN.out.1
      have q0 := foldTell_is t5 ia jj
      obtain ⟨x5, hx5⟩ : ∃ x, t5.s.po[i]? = some x := ⟨_, List.getElem?_eq_getElem (show i < t5.s.po.length by rw [HF5.out.1, ← q1]; exact hin)⟩
      refine tell_any ha (x := x5) (by rw [q0.1]; exact hx5) (HRO.out i x5 hx5) ?_
      have q2 := q0.2.2
      rw [HF5.out.2] at q2
      have q3 := HTL.out
      have q4 := HIA.out.2
      omega
     intro wb hT5
     have KE6 := Lib.hid hT5
     clear hT5
     (try simp only [Act.put, gA, gS, gZ, sA, sZ, sS])
     refine wpList_nil ?_
     have T6 := Lib.hid KE6.out.ta
     go_wp2_with fail
     go_end0
     exact ⟨rfl, by have q := T6.out; rw [HF.out] at q; exact q.done⟩
    case pos =>
     have HLK2 := Lib.hid hlt
     obtain ⟨y, hy⟩ : ∃ y, t2.s.po[k]? = some y := ⟨_, List.getElem?_eq_getElem (show k < t2.s.po.length by have q1 : n = t2.s.po.length := KR2.out.len.1; omega)⟩
     obtain ⟨g, rfl⟩ : ∃ g, a = some ⟨g, 0, none⟩ := KR2.out.ptr hy
     have HLP := Lib.hid (show k < t2.s.po.length from (List.getElem?_eq_some_iff.1 hy).1)
     have HPY := Lib.hid (show t.s.po[k]? = some y by have q := mapTo_get (asF t) t k k; rw [if_neg (Nat.lt_irrefl _), ← HT2.out, hy] at q; exact q.symm)
     obtain ⟨u, hu⟩ : ∃ u, u = vecN y := ⟨_, rfl⟩
     have hyu : y = poU y u := by rw [hu]; exact okP_poU (HOK.out k y HPY.out)
     have HY2 := Lib.hid (show t2.s.po[k]? = some (poU y u) from hyu ▸ hy)
     have HU := Lib.hid hu
     obtain ⟨rr, hrr⟩ : ∃ r, (rolesOf t)[k]? = some r := ⟨_, List.getElem?_eq_getElem (show k < (rolesOf t).length by rw [rolesOf_len, ← LEN.out.1]; exact hlt)⟩
     obtain ⟨vv, hvv⟩ : ∃ r, (tellsOf t)[k]? = some r := ⟨_, List.getElem?_eq_getElem (show k < (tellsOf t).length by rw [tellsOf_len, ← LEN.out.1]; exact hlt)⟩
     have HRR := Lib.hid (show (rolesOf t).getD k 0 = rr by rw [List.getD_eq_getElem?_getD, hrr]; rfl)
     have HVV := Lib.hid (show (tellsOf t).getD k ⟨0, 0, 0, 0⟩ = vv by rw [List.getD_eq_getElem?_getD, hvv]; rfl)
     obtain ⟨g1, c1, A1, rfl, hc1, hm1, hi1, ha1⟩ := HLX.out.r k rr hrr
     obtain ⟨g2, c2, A2, rfl, hc2, hm2, hi2, ha2⟩ := HLX.out.t k vv hvv
     have e1 : (rolesOf t).length = n := (rolesOf_len t).trans LEN.out.1.symm
     have e2 : (tellsOf t).length = n := (tellsOf_len t).trans LEN.out.1.symm
     obtain ⟨ch, hch⟩ : ∃ z, z = chA R0 C0 P0 (.slice (some ⟨g1, 0, none⟩) (rolesOf t).length c1) (.slice (some ⟨g2, 0, none⟩) (tellsOf t).length c2) := ⟨_, rfl⟩
     have HC3 := Lib.hid (show ch[3]? = some (.slice (some ⟨g1, 0, none⟩) n c1) by rw [hch, e1]; rfl)
     have HC4 := Lib.hid (show ch[4]? = some (.slice (some ⟨g2, 0, none⟩) n c2) by rw [hch, e2]; rfl)
     have HM1 := Lib.hid (show n ≤ c1 ∧ c1 ≤ maxLen by rw [e1] at hc1; exact ⟨hc1, hm1⟩)
     have HM2 := Lib.hid (show n ≤ c2 ∧ c2 ≤ maxLen by rw [e2] at hc2; exact ⟨hc2, hm2⟩)
     obtain ⟨tvS, fvS, aS, aN, -⟩ := KR2.out.act
     have AS := Lib.hid aS
     obtain ⟨FS, hFS⟩ : ∃ z, z = foot ⟨T, b, some ⟨g, 0, none⟩, n, m, v2, v3, v4⟩ tvS fvS := ⟨_, rfl⟩
     have HFS := Lib.hid hFS
     have KS := Lib.hid (show Ta ⟨wr, ⟨T, b, some ⟨g, 0, none⟩, n, m, v2, v3, v4⟩, FS⟩ [] t2 wr from hFS ▸ aS.start)
     have hst : ∀ x ∈ lx ++ [(b6, ch, 79)], ∀ W, Mv FS wr W → Blk W x.1 x.2.1 x.2.2 := fun x hx W hm => by
      rw [hch] at hx
      exact (KR2.out.all x hx).fr hm (by rw [hFS]; exact aN x hx)
     have HB6 := Lib.hid (show ∀ W, Mv FS wr W → Blk W b6 ch 79 from fun W hm => hst (b6, ch, 79) (List.mem_append_right _ (List.mem_singleton.2 rfl)) W hm)
     have HU1 := Lib.hid (show ∀ W, Mv FS wr W → W.cell? ⟨g1, k, none⟩ = some (.int .i64 rr) from fun W hm => ((hst (g1, A1, 3) (List.mem_append_left _ hi1) W hm).cell k).trans ha1)
     have HU2 := Lib.hid (show ∀ W, Mv FS wr W → W.rangeAt g2 (k * 4) (vcA vv).toList from fun W hm c v hv => ((hst (g2, A2, 71) (List.mem_append_left _ hi2) W hm).cell (k * 4 + c)).trans (ha2 c v hv))
     clear hlt hy hu hyu hrr hvv hc1 hm1 hi1 ha1 hc2 hm2 hi2 ha2 e1 e2 aS aN hFS hst hch
     go_upto_region 9 with fail
     refine lz (wz1 (.bool true) (h1 := by have q := HLK2.out; go_simp) (h := nz ?_))
     go_upto_region 10 with fail
     refine lz (wz3 (iV (k : Nat)) (pT g (k * 21)) (.agg (poA { y with p13 := (u.r : Nat), p14 := (u.c : Nat), p15 := (u.b : Nat), p16 := (u.p : Nat) })) (h2 := by have q1 : k < n := HLK2.out; have q2 : n ≤ m := LEN.out.2.1; go_simp) (h3 := by exact run_loadRange 73 _ rfl g (k * 21) rfl (poA { y with p13 := (u.r : Nat), p14 := (u.c : Nat), p15 := (u.b : Nat), p16 := (u.p : Nat) }) _ (KS.out.prange rfl HY2.out) Tryd.underlying73 rfl (po_info _)) (h := ?_))
     refine ta_alloc KS.out 73 (nil21) rfl z50 (by rfl) (pz (h := ?_))
     intro b22 w22 K22
     refine wz1 (iV (k : Nat)) (h := ?_)
     refine ta_row K22.out 0 rfl 73 _ _ (poA { y with p13 := (u.r : Nat), p14 := (u.c : Nat), p15 := (u.b : Nat), p16 := (u.p : Nat) }) rfl rfl rfl rfl (size50) (by rfl) (po_all _) (py (h := ?_))
     intro w23 K23
     refine wpList_nil ?_
     go_upto_region 11 with fail
     obtain ⟨zp, hzp⟩ : ∃ z, z = assumeP y u rr vv t2.s.cf.p3 := ⟨_, rfl⟩
     obtain ⟨an, han⟩ : ∃ z, z = assumeN y u rr vv := ⟨_, rfl⟩
     obtain ⟨op, hop⟩ : ∃ z, z = openedB y zp := ⟨_, rfl⟩
     have HZP := Lib.hid hzp
     clear hzp
     have HAN := Lib.hid han
     clear han
     have HOP := Lib.hid hop
     clear hop
     refine rk (fun s => [.agg (poA { y with p13 := (u.r : Nat), p14 := (u.c : Nat), p15 := (u.b : Nat), p16 := (u.p : Nat) }), pT b6 3, .slice (some ⟨g1, 0, none⟩) n c1, iV (k : Nat), pT g1 k, iV rr, pT b6 4, .slice (some ⟨g2, 0, none⟩) n c2, iV (k : Nat), pT g2 (k * 4), .agg (vcA vv), pT b 0, pT b 0, pT b 0, pT b 0, .agg (cfA t2.s.cf), .tuple #[.agg (poA zp), .bool an, .bool op], .tuple #[.agg (poA zp), .bool an, .bool op], .agg (poA zp), .bool an, .bool op, s, undef, .bool an, .bool op]) (fun s Lx w' => W2 w23 73 62 21 21 (poA zp) (#[]) (Lx 21) false (Lx 22) false s undef w') (u9) [] [] [(0, fun s => [(8, pT b22 0)]), (2, fun s => [(62, pT b6 3)]), (4, fun s => [(63, .slice (some ⟨g1, 0, none⟩) n c1), (64, iV (k : Nat))]), (5, fun s => [(65, pT g1 k)]), (7, fun s => [(67, pT b6 4)]), (9, fun s => [(68, .slice (some ⟨g2, 0, none⟩) n c2), (69, iV (k : Nat))]), (10, fun s => [(70, pT g2 (k * 4))]), (15, fun s => [(75, pT b 0)]), (16, fun s => [(61, .agg (poA { y with p13 := (u.r : Nat), p14 := (u.c : Nat), p15 := (u.b : Nat), p16 := (u.p : Nat) })), (66, iV rr), (71, .agg (vcA vv)), (76, .agg (cfA t2.s.cf))]), (21, fun s => []), (22, fun s => [(9, s), (78, .agg (poA zp))])] [21, 22] (W2.start _) (fun _ _ _ _ => trivial) (fun _ L1 L2 _ e h => by (try dsimp only at h ⊢); rw [← e 21 (by decide), ← e 22 (by decide)]; exact h) ?_ ?_
     ·
      refine ⟨?_, ?_, ?_, ?_, ?_, ?_, ?_, ?_, ?_, ?_, ?_, trivial⟩ <;> (rintro v9 Lx w' hw hL haft hdc ρ hc hf hG hs o ho; cases ho; try dsimp only [pT, iV, seen] at hw hs)
      ·
       obtain ⟨e8, _⟩ := hs
       exact sq (.agg (poA { y with p13 := (u.r : Nat), p14 := (u.c : Nat), p15 := (u.b : Nat), p16 := (u.p : Nat) })) (l_var 73 _ rfl _ e8 _ _ _ (Ta.at (i := 0) (K23.out.next hw.from1) rfl) Tryd.underlying73 rfl (size50))
      ·
       exact sq (.slice (some ⟨g1, 0, none⟩) n c1) (by have q := ((HB6.out w' ((K23.out.next hw.from1)).fr).cell 3).trans HC3.out; go_simp)
      ·
       exact sq (pT g1 k) (by have q1 : k < n := HLK2.out; have q2 : n ≤ c1 := HM1.out.1; go_simp)
      ·
       exact sq (iV rr) (by have q := HU1.out w' ((K23.out.next hw.from1)).fr; go_simp)
      ·
       exact sq (.slice (some ⟨g2, 0, none⟩) n c2) (by have q := ((HB6.out w' ((K23.out.next hw.from1)).fr).cell 4).trans HC4.out; go_simp)
      ·
       exact sq (pT g2 (k * 4)) (by have q1 : k < n := HLK2.out; have q2 : n ≤ c2 := HM2.out.1; go_simp)
      ·
       obtain ⟨e70, _⟩ := hs
       exact sq (.agg (vcA vv)) (l_range 71 _ rfl g2 (k * 4) e70 (vcA vv) _ (HU2.out w' ((K23.out.next hw.from1)).fr) Tryd.underlying71 rfl sizeV)
      ·
       obtain ⟨e75, _⟩ := hs
       exact sq (.agg (cfA t2.s.cf)) (by obtain ⟨cs, ty, q1, q2⟩ := (K23.out.next hw.from1).conf; exact l_partof 31 _ rfl b 0 e75 ty cs (cfA t2.s.cf).toList _ q1 q2 Tryd.underlying31 rfl (cf_info _))
      ·
       exact sc (.tuple #[.agg (poA zp), .bool an, .bool op]) 56 #[.agg (poA { y with p13 := (u.r : Nat), p14 := (u.c : Nat), p15 := (u.b : Nat), p16 := (u.p : Nat) }), iV rr, .agg (vcA vv), .agg (cfA t2.s.cf)] (by have q := assume_any y u rr vv t2.s.cf w'; rw [← HZP.out, ← HAN.out, ← HOP.out] at q; exact q) (by go_simp) (fun w2 hb => ⟨_, fun _ _ => rfl, rfl, hw.next hb⟩)
      ·
       skip
       have hz := z50 w'
       exact sw (w' := (w'.alloc (.cells (nil21) 73))) (pT (w'.heap.size) 0) (by go_simp) ⟨(pT (w'.heap.size) 0), vs_other (i := 21) rfl hL, rfl, hw.alloc7 rfl hL⟩
      ·
       obtain ⟨e9, e78, _⟩ := hs
       obtain ⟨c, cs, rfl, hB, hz, hk, -⟩ := hw.p7 (haft 21 (by decide))
       exact sr 73 _ _ rfl c (poA zp) e9 e78 73 cs hk (size50) (hz.trans rfl) (po_all _) ⟨_, fun _ _ => rfl, rfl, hw.store7 (haft 21 (by decide)) rfl hk hB⟩
     intro v9 Lx w24 hw hall
     try dsimp only at hw
     obtain ⟨b24x, cs0, hv0, hB0, -, hk0, hx0⟩ := hw.p7 (hall 21 (by decide))
     have hx0 := hx0 (hall 22 (by decide))
     subst hx0
     subst hv0
     simp only [pT, iV, List.toList_toArray, putsZ_some, putsZ_none, putsZ_nil, List.setIfInBounds_toArray, List.set_cons_zero, List.set_cons_succ]
     have K24 := Lib.hid (show Ta ⟨wr, ⟨T, b, some ⟨g, 0, none⟩, n, m, v2, v3, v4⟩, FS⟩ [(b22, poA { y with p13 := (u.r : Nat), p14 := (u.c : Nat), p15 := (u.b : Nat), p16 := (u.p : Nat) }, 73), (b24x, poA zp, 73)] (t2) w24 from (ta_add2 K23.out hw.from1 hk0 hB0))
     clear hw hall
     go_upto_region 12 with fail
     refine rk (fun (_ : Unit) => [pT b 0, pT b 0, pT b 0, pT b 6, .slice (some ⟨g, 0, none⟩) n m, iV (k : Nat), .agg (poA zp), pT g (k * 21), undef]) (fun _ Lx w' => Ta ⟨wr, ⟨T, b, some ⟨g, 0, none⟩, n, m, v2, v3, v4⟩, FS⟩ [(b22, poA { y with p13 := (u.r : Nat), p14 := (u.c : Nat), p15 := (u.b : Nat), p16 := (u.p : Nat) }, 73), (b24x, poA zp, 73)] (bif Lx 8 then t2.setPo (t2.s.po.set k zp) else t2) w') (()) [] [] [(4, fun _ => [(84, pT b 6)]), (6, fun _ => [(9, pT b24x 0)]), (7, fun _ => [(85, .slice (some ⟨g, 0, none⟩) n m), (86, iV (k : Nat))]), (8, fun _ => [(87, .agg (poA zp)), (88, pT g (k * 21))])] [8] (K24.out.drew) (fun _ _ _ _ => trivial) (fun _ L1 L2 _ e h => by (try dsimp only at h ⊢); rw [← e 8 (by decide)]; exact h) ?_ ?_
     ·
      refine ⟨?_, ?_, ?_, ?_, trivial⟩ <;> (rintro _ Lx w' hw hL haft hdc ρ hc hf hG hs o ho; cases ho; try dsimp only [pT, iV, seen] at hw hs)
      ·
       have hn8 : Lx 8 = false := nup (fun cq => hdc 7 (hdc 8 cq 7 (by decide)) 4 (by decide)) hL
       have hwo : Ta ⟨wr, ⟨T, b, some ⟨g, 0, none⟩, n, m, v2, v3, v4⟩, FS⟩ [(b22, poA { y with p13 := (u.r : Nat), p14 := (u.c : Nat), p15 := (u.b : Nat), p16 := (u.p : Nat) }, 73), (b24x, poA zp, 73)] (t2) w' := by rw [hn8] at hw; exact hw
       exact sq (.slice (some ⟨g, 0, none⟩) n m) (by have q : w'.cell? ⟨b, 6, none⟩ = some (.slice (some ⟨g, 0, none⟩) n m) := hwo.acell 6 rfl; go_simp)
      ·
       obtain ⟨e9, _⟩ := hs
       have hn8 : Lx 8 = false := nup (fun cq => hdc 8 cq 6 (by decide)) hL
       have hwo : Ta ⟨wr, ⟨T, b, some ⟨g, 0, none⟩, n, m, v2, v3, v4⟩, FS⟩ [(b22, poA { y with p13 := (u.r : Nat), p14 := (u.c : Nat), p15 := (u.b : Nat), p16 := (u.p : Nat) }, 73), (b24x, poA zp, 73)] (t2) w' := by rw [hn8] at hw; exact hw
       exact sq (.agg (poA zp)) (l_var 73 _ rfl _ e9 _ _ _ (Ta.at (i := 1) hwo rfl) Tryd.underlying73 rfl (size50))
      ·
       exact sq (pT g (k * 21)) (by have q1 : k < n := HLK2.out; have q2 : n ≤ m := LEN.out.2.1; go_simp)
      ·
       obtain ⟨e87, e88, _⟩ := hs
       have hw0 : Ta ⟨wr, ⟨T, b, some ⟨g, 0, none⟩, n, m, v2, v3, v4⟩, FS⟩ [(b22, poA { y with p13 := (u.r : Nat), p14 := (u.c : Nat), p15 := (u.b : Nat), p16 := (u.p : Nat) }, 73), (b24x, poA zp, 73)] (t2) w' := by rw [hL] at hw; exact hw
       exact sm 73 _ _ rfl g (k * 21) (poA zp) e88 e87 (hw0.pthere rfl HLP.out) (po_info _) (po_all _) ⟨(), fun _ _ => rfl, rfl, hw0.pput rfl HLP.out⟩
     intro _ Lx w25 hw hall
     try dsimp only at hw
     simp only [pT, iV, List.toList_toArray, putsZ_some, putsZ_none, putsZ_nil, List.setIfInBounds_toArray, List.set_cons_zero, List.set_cons_succ]
     rw [hall 8 (by decide)] at hw
     simp only [cond_true] at hw
     have K25 := Lib.hid hw
     clear hw hall
     have HD := Lib.hid (show Done wr ⟨T, b, some ⟨g, 0, none⟩, n, m, v2, v3, v4⟩ tvS fvS (t2.setPo (t2.s.po.set k zp)) w25 from by have q := K25.out; rw [HFS.out] at q; exact q.done)
     have hS := KT.out.seg AS.out HD.out
     have e3 : t2.setPo (t2.s.po.set k zp) = mapTo (asF t) t (k + 1) := by show _ = mapStep (asF t) (mapTo (asF t) t k) k; rw [← HT2.out, mapStep_some (show t2.s.po[k]? = some y from by have q := mapTo_get (asF t) t k k; rw [if_neg (Nat.lt_irrefl _), ← HT2.out, HPY.out] at q; exact q)]; show _ = t2.setPo (t2.s.po.set k (assumeP y (vecN y) ((rolesOf t).getD k 0) ((tellsOf t).getD k ⟨0, 0, 0, 0⟩) t.s.cf.p3)); rw [HRR.out, HVV.out, ← HU.out, ← HC2.out.2.1, ← HZP.out]
     rw [e3] at hS
     have KN := Lib.hid hS
     clear hS e3
     have HPA := Lib.hid (show anewF t k y = an by show assumeN y (vecN y) ((rolesOf t).getD k 0) ((tellsOf t).getD k ⟨0, 0, 0, 0⟩) = an; rw [HRR.out, HVV.out, ← HU.out]; exact HAN.out.symm)
     have HPO := Lib.hid (show openF t k y = op by show openedB y (assumeP y (vecN y) ((rolesOf t).getD k 0) ((tellsOf t).getD k ⟨0, 0, 0, 0⟩) t.s.cf.p3) = op; rw [HRR.out, HVV.out, ← HU.out, ← HC2.out.2.1, ← HZP.out]; exact HOP.out.symm)
     go_upto_region 13 with fail
     refine lz (wz2 (iV (k : Nat)) (.bool an) (h := ?_))
     refine wpList_callT 57 #[.pointer (some ⟨b7, 0, none⟩), .int .i64 1, .int .i64 (k : Nat), .bool an] (.tuple #[]) (fun w5 => Tm ⟨w, ⟨T, b, some ⟨g, 0, none⟩, n, m, v2, v3, v4⟩, F⟩ (lx ++ [(b6, chA R0 C0 P0 (.slice (some ⟨g1, 0, none⟩) (rolesOf t).length c1) (.slice (some ⟨g2, 0, none⟩) (tellsOf t).length c2), 79)]) b7 (castI (markTo (openF t) t.s.po k)) (castI (markTo (anewF t) t.s.po (k + 1))) (mapTo (asF t) t (k + 1)) w5) (by rfl) (by go_simp) ?_ ?_
     next =>
      obtain ⟨s0, s1, m1, m2⟩ := KN.out.mks
      have hl := castI_len (anewF t) t.s.po k
      have hl2 := HLK2.out
      refine (mark1_if k an m1 (by omega)).mono fun e w5 ⟨he, hd⟩ => ⟨he, ?_⟩
      rw [markTo_if (p := (anewF t)) HPY.out, HPA.out]
      exact KN.out.marks m1 m2 hd
     intro wd hT5
     have KN2 := Lib.hid hT5
     clear hT5
     (try simp only [Act.put, gA, gS, gZ, sA, sZ, sS])
     refine wpList_nil ?_
     go_upto_region 14 with fail
     refine lz (wz2 (iV (k : Nat)) (.bool op) (h := ?_))
     refine wpList_callT 57 #[.pointer (some ⟨b7, 0, none⟩), .int .i64 0, .int .i64 (k : Nat), .bool op] (.tuple #[]) (fun w5 => Tm ⟨w, ⟨T, b, some ⟨g, 0, none⟩, n, m, v2, v3, v4⟩, F⟩ (lx ++ [(b6, chA R0 C0 P0 (.slice (some ⟨g1, 0, none⟩) (rolesOf t).length c1) (.slice (some ⟨g2, 0, none⟩) (tellsOf t).length c2), 79)]) b7 (castI (markTo (openF t) t.s.po (k + 1))) (castI (markTo (anewF t) t.s.po (k + 1))) (mapTo (asF t) t (k + 1)) w5) (by rfl) (by go_simp) ?_ ?_
     next =>
      obtain ⟨s0, s1, m1, m2⟩ := KN2.out.mks
      have hl := castI_len (openF t) t.s.po k
      have hl2 := HLK2.out
      refine (mark0_if k op m1 (by omega)).mono fun e w5 ⟨he, hd⟩ => ⟨he, ?_⟩
      rw [markTo_if (p := (openF t)) HPY.out, HPO.out]
      exact KN2.out.marks m1 m2 hd
     intro we hT5
     have KN3 := Lib.hid hT5
     clear hT5
     (try simp only [Act.put, gA, gS, gZ, sA, sZ, sS])
     refine wpList_nil ?_
     have hlt := HLK2.out
     go_wp2_with fail
     go_roundw
     case rel => exact ⟨k + 1, HLK2.out, by go_num, KN3.out⟩
     case measure => have := HLK2.out; simp [intOf]; omega
  case pos =>
   have HLK := Lib.hid hlt
   obtain ⟨y, hy⟩ : ∃ y, t.s.po[k]? = some y := ⟨_, List.getElem?_eq_getElem (show k < t.s.po.length by have q1 : n = t.s.po.length := LEN.out.1; omega)⟩
   obtain ⟨g, rfl⟩ : ∃ g, a = some ⟨g, 0, none⟩ := (HT.out w (Below.refl _ _)).ptr hy
   have hk1 := HOK.out k y hy
   obtain ⟨u, hu⟩ : ∃ u, u = vecN y := ⟨_, rfl⟩
   obtain ⟨cN, hcN⟩ : ∃ c, c = y.p3.toNat := ⟨_, rfl⟩
   obtain ⟨iN, hiN⟩ : ∃ c, c = (idP y ((k : Int) + 1)).toNat := ⟨_, rfl⟩
   have hid1 : idP y ((k : Int) + 1) = (iN : Int) := by rw [hiN]; exact (Int.toNat_of_nonneg (idP_is y _).1).symm
   have hyy := okP_is hk1
   rw [← hu, ← hcN] at hyy
   have hy2 : t.s.po[k]? = some { y with p3 := (cN : Nat), p13 := (u.r : Nat), p14 := (u.c : Nat), p15 := (u.b : Nat), p16 := (u.p : Nat) } := by rw [hy]; exact congrArg some hyy
   have HRP := Lib.hid (show rpN y k = ⟨onP y, decide (y.p12 = 2), u, cN, iN⟩ by unfold rpN; rw [← hu, ← hcN, ← hiN])
   have HIY := Lib.hid hy
   have HY := Lib.hid hy2
   have HID := Lib.hid (show idP { y with p3 := (cN : Nat), p13 := (u.r : Nat), p14 := (u.c : Nat), p15 := (u.b : Nat), p16 := (u.p : Nat) } ((k : Int) + 1) = (iN : Int) from hid1)
   have HKB := Lib.hid (show (k : Int) < 100 by omega)
   clear hlt hy hk1 hu hcN hiN hid1 hyy hy2
   have HT := Lib.hid (HT.out wr KR.out.below).ready
   have KQ := Lib.hid (Kb.nil wr)
   go_upto_region 2 with fail
   refine lz (wz1 (.bool true) (h1 := by have q := HLK.out; go_simp) (h := nz ?_))
   go_upto_region 3 with fail
   refine lz (wz3 (iV (k : Nat)) (pT g (k * 21)) (.agg (poA { y with p3 := (cN : Nat), p13 := (u.r : Nat), p14 := (u.c : Nat), p15 := (u.b : Nat), p16 := (u.p : Nat) })) (h2 := by have q1 : k < n := HLK.out; have q2 : n ≤ m := LEN.out.2.1; go_simp) (h3 := by exact run_loadRange 73 _ rfl g (k * 21) rfl (poA { y with p3 := (cN : Nat), p13 := (u.r : Nat), p14 := (u.c : Nat), p15 := (u.b : Nat), p16 := (u.p : Nat) }) _ ((HT.out _ KQ.out.below).prange rfl HY.out) Tryd.underlying73 rfl (po_info _)) (h := ?_))
   refine kb_alloc KQ.out 73 (nil21) rfl z50 (by rfl) (pz (h := ?_))
   intro b2 w2 K2
   refine wz1 (iV (k : Nat)) (h := ?_)
   refine kb_row K2.out 0 rfl 73 _ _ (poA { y with p3 := (cN : Nat), p13 := (u.r : Nat), p14 := (u.c : Nat), p15 := (u.b : Nat), p16 := (u.p : Nat) }) rfl rfl rfl rfl (size50) (by rfl) (po_all _) (py (h := ?_))
   intro w3 K3
   refine wpList_nil ?_
   go_upto_region 4 with fail
   obtain ⟨on, hon⟩ : ∃ q, q = onP y := ⟨_, rfl⟩
   obtain ⟨hd, hhd⟩ : ∃ q, q = decide (y.p12 = 2) := ⟨_, rfl⟩
   have HON := Lib.hid hon
   clear hon
   have HHD := Lib.hid hhd
   clear hhd
   have HLL := Lib.hid (show (rpTo t.s.po k).length ≤ 100 by have q1 : n = t.s.po.length := LEN.out.1; have q2 := HLK.out; rw [rpTo_len k (by omega)]; omega)
   have HO2 := Lib.hid (HO.out.next (show Below wr.heap.size wr w3 from K3.out.below))
   have KF := Lib.hid (show ∀ W, w3.grownBy W (Value.slice qa k ra).ownBlock → Blk W b2 (poA { y with p3 := (cN : Nat), p13 := (u.r : Nat), p14 := (u.c : Nat), p15 := (u.b : Nat), p16 := (u.p : Nat) }) 73 from fun W hW => (K3.out.at (i := 0) rfl).grown hW (fun e => absurd (HO.out.lt _ e.symm).2 (Nat.not_lt.2 (K3.out.new (b2, _, 73) (List.mem_cons_self ..)))))
   have HRPE := Lib.hid (show rpN y k = ⟨on, hd, u, cN, iN⟩ by rw [HRP.out, HON.out, HHD.out])
   have HLN := Lib.hid (show k + 1 ≤ t.s.po.length by have q1 : n = t.s.po.length := LEN.out.1; have q2 := HLK.out; omega)
   refine wp_region_lastW 17 (I := ChAI b n m g k cN iN y u on hd qa ra t b2 _ _ _ _ _ _ _ _ _ _ _ _ _ _ _ _ _ _ _ _ _ _ _ _ _ _ _ _ _ _ _ _ _ _ _ _ _ _ _ _ _ _ _ _ _ _ _ _ _ _ _ _ _ _ _ _ _ _ _ _ _ _ _ _ _ _ _ _ _ _ w.heap.size w3) (by kernel_rfl) (by kernel_rfl) (by kernel_rfl) ⟨_, _, _, _, _, _, _, _, _, _, _, _, _, _, _, _, _, rfl, ⟨(fun h => Bool.noConfusion h), (fun h => Bool.noConfusion h), (fun h => Bool.noConfusion h), (fun h => Bool.noConfusion h), (fun h => Bool.noConfusion h), (fun h => Bool.noConfusion h), (fun h => Bool.noConfusion h), (fun h => Bool.noConfusion h), (fun h => Bool.noConfusion h), (fun h => Bool.noConfusion h), (fun h => Bool.noConfusion h), (fun h => Bool.noConfusion h), (fun h => Bool.noConfusion h), (fun h => Bool.noConfusion h), (fun h => Bool.noConfusion h)⟩, ApW.start HO2.out (Nat.le_trans KR.out.below.size K3.out.below.size)⟩ ?_ ?_
   ·
    intro o ho Lx ac w' hI hL haft
    obtain ⟨v23, v24, v25, v26, v27, v28, v29, v30, v31, v32, v33, v34, v35, v36, v37, v38, v39, rfl, hs, hw⟩ := hI
    match o, ho with
    | 0, _ =>
     exact i_val rfl (.slice qa k ra) w' (by rfl) (by go_simp) ⟨(.slice qa k ra), v24, v25, v26, v27, v28, v29, v30, v31, v32, v33, v34, v35, v36, v37, v38, v39, rfl, { hs with e23 := fun _ => rfl }, hw⟩
    | 1, _ =>
     exact i_val rfl (.agg (poA { y with p3 := (cN : Nat), p13 := (u.r : Nat), p14 := (u.c : Nat), p15 := (u.b : Nat), p16 := (u.p : Nat) })) w' (by rfl) (run_loadVar_of 73 _ rfl b2 rfl 73 _ _ (KF.out w' hw.g) Tryd.underlying73 rfl (po_info _)) ⟨v23, (.agg (poA { y with p3 := (cN : Nat), p13 := (u.r : Nat), p14 := (u.c : Nat), p15 := (u.b : Nat), p16 := (u.p : Nat) })), v25, v26, v27, v28, v29, v30, v31, v32, v33, v34, v35, v36, v37, v38, v39, rfl, { hs with e24 := fun _ => rfl }, hw⟩
    | 2, _ =>
     have e24x := hs.e24 (haft 1 (by decide))
     subst e24x
     exact i_call rfl (.bool on) 20 #[.agg (poA { y with p3 := (cN : Nat), p13 := (u.r : Nat), p14 := (u.c : Nat), p15 := (u.b : Nat), p16 := (u.p : Nat) })] (fun w2 => Below w'.heap.size w' w2) (by rfl) (by go_simp) (by have q := on_any { y with p3 := (cN : Nat), p13 := (u.r : Nat), p14 := (u.c : Nat), p15 := (u.b : Nat), p16 := (u.p : Nat) } w'; rw [show onP { y with p3 := (cN : Nat), p13 := (u.r : Nat), p14 := (u.c : Nat), p15 := (u.b : Nat), p16 := (u.p : Nat) } = on from HON.out.symm] at q; exact q) (fun w2 hb => ⟨v23, (.agg (poA { y with p3 := (cN : Nat), p13 := (u.r : Nat), p14 := (u.c : Nat), p15 := (u.b : Nat), p16 := (u.p : Nat) })), (.bool on), v26, v27, v28, v29, v30, v31, v32, v33, v34, v35, v36, v37, v38, v39, rfl, { hs with e25 := fun _ => rfl }, hw.next hb⟩)
    | 3, _ =>
     exact i_val rfl (.pointer (some ⟨b2, 12, none⟩)) w' (by rfl) (by go_simp) ⟨v23, v24, v25, (.pointer (some ⟨b2, 12, none⟩)), v27, v28, v29, v30, v31, v32, v33, v34, v35, v36, v37, v38, v39, rfl, { hs with e26 := fun _ => rfl }, hw⟩
    | 4, _ =>
     have e26x := hs.e26 (haft 3 (by decide))
     subst e26x
     exact i_val rfl (.int .i64 y.p12) w' (by rfl) (by have q : w'.cell? ⟨b2, 12, none⟩ = some (.int .i64 y.p12) := ((KF.out w' hw.g).cell 12).trans (by rfl); go_simp) ⟨v23, v24, v25, (.pointer (some ⟨b2, 12, none⟩)), (.int .i64 y.p12), v28, v29, v30, v31, v32, v33, v34, v35, v36, v37, v38, v39, rfl, { hs with e27 := fun _ => rfl }, hw⟩
    | 5, _ =>
     have e27x := hs.e27 (haft 4 (by decide))
     subst e27x
     exact i_val rfl (.bool hd) w' (by rfl) (by rw [show (Value.bool hd) = .bool (decide (y.p12 = 2)) from by rw [HHD.out]]; go_simp; try rfl) ⟨v23, v24, v25, v26, (.int .i64 y.p12), (.bool hd), v29, v30, v31, v32, v33, v34, v35, v36, v37, v38, v39, rfl, { hs with e28 := fun _ => rfl }, hw⟩
    | 6, _ =>
     exact i_val rfl (.pointer (some ⟨b2, 13, none⟩)) w' (by rfl) (by go_simp) ⟨v23, v24, v25, v26, v27, v28, (.pointer (some ⟨b2, 13, none⟩)), v30, v31, v32, v33, v34, v35, v36, v37, v38, v39, rfl, { hs with e29 := fun _ => rfl }, hw⟩
    | 7, _ =>
     have e29x := hs.e29 (haft 6 (by decide))
     subst e29x
     exact i_val rfl (.agg (vcA u)) w' (by rfl) (run_loadPart_of 71 _ rfl b2 13 rfl 73 _ (vcA u).toList _ (KF.out w' hw.g) (part_of (by kernel_rfl)) Tryd.underlying71 rfl sizeV) ⟨v23, v24, v25, v26, v27, v28, (.pointer (some ⟨b2, 13, none⟩)), (.agg (vcA u)), v31, v32, v33, v34, v35, v36, v37, v38, v39, rfl, { hs with e30 := fun _ => rfl }, hw⟩
    | 8, _ =>
     exact i_val rfl (.pointer (some ⟨b2, 3, none⟩)) w' (by rfl) (by go_simp) ⟨v23, v24, v25, v26, v27, v28, v29, v30, (.pointer (some ⟨b2, 3, none⟩)), v32, v33, v34, v35, v36, v37, v38, v39, rfl, { hs with e31 := fun _ => rfl }, hw⟩
    | 9, _ =>
     have e31x := hs.e31 (haft 8 (by decide))
     subst e31x
     exact i_val rfl (.int .u32 (cN : Nat)) w' (by rfl) (by have q : w'.cell? ⟨b2, 3, none⟩ = some (.int .u32 (cN : Nat)) := ((KF.out w' hw.g).cell 3).trans (by rfl); go_simp) ⟨v23, v24, v25, v26, v27, v28, v29, v30, (.pointer (some ⟨b2, 3, none⟩)), (.int .u32 (cN : Nat)), v33, v34, v35, v36, v37, v38, v39, rfl, { hs with e32 := fun _ => rfl }, hw⟩
    | 10, _ =>
     exact i_val rfl (.agg (poA { y with p3 := (cN : Nat), p13 := (u.r : Nat), p14 := (u.c : Nat), p15 := (u.b : Nat), p16 := (u.p : Nat) })) w' (by rfl) (run_loadVar_of 73 _ rfl b2 rfl 73 _ _ (KF.out w' hw.g) Tryd.underlying73 rfl (po_info _)) ⟨v23, v24, v25, v26, v27, v28, v29, v30, v31, v32, (.agg (poA { y with p3 := (cN : Nat), p13 := (u.r : Nat), p14 := (u.c : Nat), p15 := (u.b : Nat), p16 := (u.p : Nat) })), v34, v35, v36, v37, v38, v39, rfl, { hs with e33 := fun _ => rfl }, hw⟩
    | 11, _ =>
     exact i_val rfl (.int .i64 (k : Nat)) w' (by rfl) (by go_simp) ⟨v23, v24, v25, v26, v27, v28, v29, v30, v31, v32, v33, (.int .i64 (k : Nat)), v35, v36, v37, v38, v39, rfl, { hs with e34 := fun _ => rfl }, hw⟩
    | 12, _ =>
     have e34x := hs.e34 (haft 11 (by decide))
     subst e34x
     exact i_val rfl (.int .i64 ((k : Int) + 1)) w' (by rfl) (by have q := HKB.out; go_simp; try exact wrap_i64 (by omega) (by omega)) ⟨v23, v24, v25, v26, v27, v28, v29, v30, v31, v32, v33, (.int .i64 (k : Nat)), (.int .i64 ((k : Int) + 1)), v36, v37, v38, v39, rfl, { hs with e35 := fun _ => rfl }, hw⟩
    | 13, _ =>
     have e33x := hs.e33 (haft 10 (by decide))
     subst e33x
     have e35x := hs.e35 (haft 12 (by decide))
     subst e35x
     exact i_call rfl (.int .u16 (iN : Nat)) 21 #[.agg (poA { y with p3 := (cN : Nat), p13 := (u.r : Nat), p14 := (u.c : Nat), p15 := (u.b : Nat), p16 := (u.p : Nat) }), .int .i64 ((k : Int) + 1)] (fun w2 => Below w'.heap.size w' w2) (by rfl) (by go_simp) (by have q := id_any { y with p3 := (cN : Nat), p13 := (u.r : Nat), p14 := (u.c : Nat), p15 := (u.b : Nat), p16 := (u.p : Nat) } ((k : Int) + 1) w'; rw [HID.out] at q; exact q) (fun w2 hb => ⟨v23, v24, v25, v26, v27, v28, v29, v30, v31, v32, (.agg (poA { y with p3 := (cN : Nat), p13 := (u.r : Nat), p14 := (u.c : Nat), p15 := (u.b : Nat), p16 := (u.p : Nat) })), v34, (.int .i64 ((k : Int) + 1)), (.int .u16 (iN : Nat)), v37, v38, v39, rfl, { hs with e36 := fun _ => rfl }, hw.next hb⟩)
    | 14, _ =>
     have e25x := hs.e25 (haft 2 (by decide))
     subst e25x
     have e28x := hs.e28 (haft 5 (by decide))
     subst e28x
     have e30x := hs.e30 (haft 7 (by decide))
     subst e30x
     have e32x := hs.e32 (haft 9 (by decide))
     subst e32x
     have e36x := hs.e36 (haft 13 (by decide))
     subst e36x
     exact i_val rfl (.agg (rpA ⟨on, hd, u, cN, iN⟩)) w' (by rfl) (run_build_of 76 [(0, .tmp 25), (1, .tmp 28), (2, .tmp 30), (3, .tmp 32), (4, .tmp 36)] rfl _ (rpA ⟨on, hd, u, cN, iN⟩) rfl (built_rp _ _ _ _ _)) ⟨v23, v24, (.bool on), v26, v27, (.bool hd), v29, (.agg (vcA u)), v31, (.int .u32 (cN : Nat)), v33, v34, v35, (.int .u16 (iN : Nat)), (.agg (rpA ⟨on, hd, u, cN, iN⟩)), v38, v39, rfl, { hs with e37 := fun _ => rfl }, hw⟩
    | 15, _ =>
     have e37x := hs.e37 (haft 14 (by decide))
     subst e37x
     exact i_val rfl (.slice (some ⟨w'.heap.size, 0, none⟩) 1 1) (w'.alloc (.cells (rpA ⟨on, hd, u, cN, iN⟩) 76)) (by rfl) (run_bs1 67 (.tmp 37) rfl (.agg (rpA ⟨on, hd, u, cN, iN⟩)) _ rfl (one_rp ⟨on, hd, u, cN, iN⟩ w')) ⟨v23, v24, v25, v26, v27, v28, v29, v30, v31, v32, v33, v34, v35, v36, (.agg (rpA ⟨on, hd, u, cN, iN⟩)), (.slice (some ⟨w'.heap.size, 0, none⟩) 1 1), v39, rfl, { hs with }, hw.made rpT hL _ rfl⟩
    | 16, _ =>
     have e23x := hs.e23 (haft 0 (by decide))
     subst e23x
     obtain ⟨u, w2, hrun, hw2⟩ := hw.app rpT (haft 15 (by decide)) hL (by have := HLL.out; omega) 67
     have hmk := haft 15 (by decide)
     exact i_wp rfl (by rfl) (wp_append_lst _ _ 67 rfl u w2 hrun ⟨(.slice qa k ra), v24, v25, v26, v27, v28, v29, v30, v31, v32, v33, v34, v35, v36, v37, v38, u, rfl, { hs with }, by rw [show upd Lx 16 15 = true from hmk]; exact hw2⟩)
    | k + 17, h =>
     exfalso
     have h2 : k + 17 < 17 := h
     omega
   intro Lx ac w' hI hall
   obtain ⟨v23, v24, v25, v26, v27, v28, v29, v30, v31, v32, v33, v34, v35, v36, v37, v38, v39, rfl, hs, hw⟩ := hI
   have e23y := hs.e23 (hall 0 (by decide))
   subst e23y
   have e24y := hs.e24 (hall 1 (by decide))
   subst e24y
   have e25y := hs.e25 (hall 2 (by decide))
   subst e25y
   have e26y := hs.e26 (hall 3 (by decide))
   subst e26y
   have e27y := hs.e27 (hall 4 (by decide))
   subst e27y
   have e28y := hs.e28 (hall 5 (by decide))
   subst e28y
   have e29y := hs.e29 (hall 6 (by decide))
   subst e29y
   have e30y := hs.e30 (hall 7 (by decide))
   subst e30y
   have e31y := hs.e31 (hall 8 (by decide))
   subst e31y
   have e32y := hs.e32 (hall 9 (by decide))
   subst e32y
   have e33y := hs.e33 (hall 10 (by decide))
   subst e33y
   have e34y := hs.e34 (hall 11 (by decide))
   subst e34y
   have e35y := hs.e35 (hall 12 (by decide))
   subst e35y
   have e36y := hs.e36 (hall 13 (by decide))
   subst e36y
   have e37y := hs.e37 (hall 14 (by decide))
   subst e37y
   have HA := Lib.hid hw
   rw [hall 15 (by decide), hall 16 (by decide)] at HA
   clear hs hall hw
   have GR := Lib.hid HA.out.g
   obtain ⟨q', r', eu, -⟩ := (HA.out.pr rfl).shape
   rw [← HRPE.out, ← rpTo_step HIY.out, rpTo_len (k + 1) HLN.out] at eu
   subst eu
   refine i_val rfl (.slice q' (k + 1) r') w' (by rfl) (by go_simp) ?_
   have KB := Lib.hid (grownBelow (KR.out.below.trans (K3.out.below.mono KR.out.below.size)) HA.out.g (fun q hq => (HO2.out.lt q hq).1) (Nat.le_trans KR.out.below.size K3.out.below.size))
   have OO := HA.out.pr rfl
   rw [← HRPE.out, ← rpTo_step HIY.out] at OO
   have hlt := HLK.out
   go_wp2_with fail
   go_roundw
   case rel => exact ⟨k + 1, q', r', HLK.out, by go_num, rfl, ⟨fun _ h => (by cases h), KB.out, fun _ h => (by cases h), List.nodup_nil⟩, OO⟩
   case measure => have := HLK.out; simp [intOf]; omega
end
section
open Go.RowKit
attribute [local irreducible] wpQuiet wpList
theorem choose_ok : ChooseOk := ⟨fun {c} {tv fv} {t} {w} h hok hid hfl htl => by
 obtain ⟨T, b, a, n, m, v2, v3, v4⟩ := c
 exact chooseM_any h hok hid hfl htl⟩
end
end Go.Proofs.YteeinlbhcdpnnaaDoor
