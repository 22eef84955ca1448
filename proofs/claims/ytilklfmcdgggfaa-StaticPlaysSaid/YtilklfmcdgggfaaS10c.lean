/- The document's own Set of layer 10. -/
import Derived.Test.YtilklfmcdgggfaaS10b
import Derived.Test.YtilklfmcdgggfaaIns
namespace Go.Proofs.Ytilklfmcdgggfaa
open Go.RowKit
attribute [local irreducible] wpQuiet
set_option linter.unusedSimpArgs false
set_option linter.unusedVariables false

/-- With an entry; the error's number. -/
def setS (l : List Se) (x : Se) : List Se := if goodS x ≠ 0 then l else if 0 ≤ atK seK (seK x) l then l.set (atK seK (seK x) l).toNat x else if 16 ≤ l.length then l else layK seK l x
def setSE (l : List Se) (x : Se) : Int := if goodS x ≠ 0 then goodS x else if 0 ≤ atK seK (seK x) l then 0 else if 16 ≤ l.length then 13 else 0

theorem seE : ElT Try.prog 70 83 8 seC := by
  obtain ⟨i, hi, hz, hsz, hby⟩ := info_parts senfo
  exact ⟨Try.underlying70, ⟨i, _, _, hi, hz, hsz, hby, rfl, by omega⟩, by omega, seC_len, seC_one⟩

set_option maxRecDepth 100000 in
set_option maxHeartbeats 4000000 in
theorem rset10_bad (base : Nat) (v : Value) (l : List Se) (x : Se) (w : World) (h : Own w base 83 8 seC v l) (hgd : goodS x ≠ 0) :
    Calls Try.prog 34 #[v, seV x] w (OwnS w base (setS l x) (setSE l x)) := by
  have R1 := Lib.hid (show setS l x = l by unfold setS; rw [if_pos hgd])
  have R2 := Lib.hid (show goodS x = setSE l x by unfold setSE; rw [if_pos hgd])
  have hb0 := (Below.refl w.heap.size w).alloc (Nat.le_refl _) (.cells (seA x) 83)
  have HB := Lib.hid hb0
  have H := Lib.hid (h.next hb0)
  obtain ⟨G, hG⟩ : ∃ G, G = goodS x := ⟨_, rfl⟩
  rw [← hG] at hgd R2
  have HG := Lib.hid hG
  have q : (G != 0) = true := by simpa using hgd
  clear h hb0 hG hgd
  go_enter Try.func34, Try.ntmps34
  go_wp2_with (go_at_call 52; refine (rgood10 x _).mono ?_; rintro e w1 ⟨rfl, hb1⟩; rw [← HG.out])
  go_ret2
  exact ⟨_, ret_own R2.out, by rw [R1.out]; exact H.out.next hb1, HB.out.trans (hb1.mono HB.out.size)⟩

/-- What Set has found, ahead of its own: the entry's block, the list. -/
structure Set10 (w : World) (base : Nat) (v : Value) (l : List Se) (x : Se) (w1 : World) : Prop where
  blk : Blk w1 w.heap.size (seA x) 83
  own : Own w1 base 83 8 seC v l
  below : Below w.heap.size w w1
theorem Set10.next {w w1 w2 : World} {base : Nat} {v : Value} {l : List Se} {x : Se} (h : Set10 w base v l x w1) (hb : Below w1.heap.size w1 w2) : Set10 w base v l x w2 :=
  ⟨h.blk.below hb h.blk.lt, h.own.next hb, h.below.trans (hb.mono h.below.size)⟩
theorem Set10.cells {w w1 : World} {base : Nat} {v : Value} {l : List Se} {x : Se} (h : Set10 w base v l x w1) (j : Nat) (u : Value) (hu : (seA x)[j]? = some u) : w1.cell? ⟨w.heap.size, j, none⟩ = some u := by rw [h.blk.cell]; exact hu

set_option maxRecDepth 100000 in
set_option maxHeartbeats 4000000 in
theorem rset10_full (base g cap : Nat) (l : List Se) (x : Se) (w : World) (h : Own w base 83 8 seC (.slice (some ⟨g, 0, none⟩) l.length cap) l) (hok : ∀ y ∈ l, seOk y) (hx : seOk x) (hgd : ¬ goodS x ≠ 0) (hl : l.length ≤ 100) (hat : atK seK (seK x) l = -1) (h16 : 16 ≤ l.length) :
    Calls Try.prog 34 #[.slice (some ⟨g, 0, none⟩) l.length cap, seV x] w (OwnS w base (setS l x) (setSE l x)) := by
  have R1 := Lib.hid (show setS l x = l by unfold setS; rw [if_neg hgd, hat, if_neg (by omega), if_pos h16])
  have R2 := Lib.hid (show (13 : Int) = setSE l x by unfold setSE; rw [if_neg hgd, hat, if_neg (by omega), if_pos h16])
  have AT := Lib.hid hat
  obtain ⟨n, hn⟩ : ∃ n, l.length = n := ⟨_, rfl⟩
  rw [hn] at h h16 hl ⊢
  have HN := Lib.hid hn
  have hn16 : (16 : Int) ≤ n := by omega
  clear hat h16 hn
  have hb0 := (Below.refl w.heap.size w).alloc (Nat.le_refl _) (.cells (seA x) 83)
  have S0 := Lib.hid (show Set10 w base (.slice (some ⟨g, 0, none⟩) n cap) l x (w.alloc (.cells (seA x) 83)) from ⟨Blk.new _ _ _, h.next hb0, hb0⟩)
  obtain ⟨G, hG⟩ : ∃ G, G = goodS x := ⟨_, rfl⟩
  rw [← hG] at hgd
  have HG := Lib.hid hG
  have G0 : G = 0 := by simpa using hgd
  subst G0
  have HOK := Lib.hid hok
  have HXO := Lib.hid hx
  have HL := Lib.hid hl
  clear h hb0 hG hgd hok hx hl
  go_enter Try.func34, Try.ntmps34
  go_upto_region 4 with (go_at_call 52; refine (rgood10 x _).mono ?_; rintro e w1 ⟨rfl, hb1⟩; rw [← HG.out])
  have S1 := Lib.hid (S0.out.next hb1)
  clear hb1 S0 HG
  have c0 := S1.out.cells 0 _ rfl
  have c1 := S1.out.cells 1 _ rfl
  have c2 := S1.out.cells 2 _ rfl
  have c3 := S1.out.cells 3 _ rfl
  have c4 := S1.out.cells 4 _ rfl
  have c5 := S1.out.cells 5 _ rfl
  have c6 := S1.out.cells 6 _ rfl
  have HA := Lib.hid (rat10_any base x.vid x.mac HXO.out (.slice (some ⟨g, 0, none⟩) n cap) l w1 S1.out.own HOK.out (by have := HL.out; have := HN.out; omega))
  rw [show keyN x.vid x.mac = seK x from rfl, AT.out] at HA
  go_upto_region 5 with (go_at_call 32; refine HA.out.mono ?_; rintro e w2 ⟨rfl, hb2⟩)
  have S2 := Lib.hid (S1.out.next hb2)
  clear hb2 S1 c0 c1 c2 c3 c4 c5 c6 HA
  go_wp2_with fail
  go_ret2
  exact ⟨_, ret_own R2.out, by rw [R1.out]; exact S2.out.own, S2.out.below⟩

set_option maxRecDepth 100000 in
set_option maxHeartbeats 8000000 in
theorem rset10_at (base g cap k : Nat) (l : List Se) (x : Se) (w : World) (h : Own w base 83 8 seC (.slice (some ⟨g, 0, none⟩) l.length cap) l) (hok : ∀ y ∈ l, seOk y) (hx : seOk x) (hgd : ¬ goodS x ≠ 0) (hb : base ≤ w.heap.size) (hl : l.length ≤ 100) (hat : atK seK (seK x) l = k) (hkl : k < l.length) :
    Calls Try.prog 34 #[.slice (some ⟨g, 0, none⟩) l.length cap, seV x] w (OwnS w base (setS l x) (setSE l x)) := by
  have R1 := Lib.hid (show setS l x = l.set k x by unfold setS; rw [if_neg hgd, hat, if_pos (by omega)]; simp)
  have R2 := Lib.hid (show (0 : Int) = setSE l x by unfold setSE; rw [if_neg hgd, hat, if_pos (by omega)])
  have AT := Lib.hid hat
  obtain ⟨n, hn⟩ : ∃ n, l.length = n := ⟨_, rfl⟩
  rw [hn] at h hkl hl ⊢
  have HN := Lib.hid hn
  have hkn : (k : Int) < n := by omega
  have HK := Lib.hid hkl
  have HBASE := Lib.hid hb
  clear hat hkl hn hb
  have hb0 := (Below.refl w.heap.size w).alloc (Nat.le_refl _) (.cells (seA x) 83)
  have S0 := Lib.hid (show Set10 w base (.slice (some ⟨g, 0, none⟩) n cap) l x (w.alloc (.cells (seA x) 83)) from ⟨Blk.new _ _ _, h.next hb0, hb0⟩)
  obtain ⟨G, hG⟩ : ∃ G, G = goodS x := ⟨_, rfl⟩
  rw [← hG] at hgd
  have HG := Lib.hid hG
  have G0 : G = 0 := by simpa using hgd
  subst G0
  have HOK := Lib.hid hok
  have HXO := Lib.hid hx
  have HL := Lib.hid hl
  clear h hb0 hG hgd hok hx hl
  go_enter Try.func34, Try.ntmps34
  go_upto_region 4 with (go_at_call 52; refine (rgood10 x _).mono ?_; rintro e w1 ⟨rfl, hb1⟩; rw [← HG.out])
  have S1 := Lib.hid (S0.out.next hb1)
  clear hb1 S0 HG
  have c0 := S1.out.cells 0 _ rfl
  have c1 := S1.out.cells 1 _ rfl
  have c2 := S1.out.cells 2 _ rfl
  have c3 := S1.out.cells 3 _ rfl
  have c4 := S1.out.cells 4 _ rfl
  have c5 := S1.out.cells 5 _ rfl
  have c6 := S1.out.cells 6 _ rfl
  have HA := Lib.hid (rat10_any base x.vid x.mac HXO.out (.slice (some ⟨g, 0, none⟩) n cap) l w1 S1.out.own HOK.out (by have := HL.out; have := HN.out; omega))
  rw [show keyN x.vid x.mac = seK x from rfl, AT.out] at HA
  go_upto_region 5 with (go_at_call 32; refine HA.out.mono ?_; rintro e w2 ⟨rfl, hb2⟩)
  have S2 := Lib.hid (S1.out.next hb2)
  clear hb2 S1 c0 c1 c2 c3 c4 c5 c6 HA
  obtain ⟨v3, w3, hrun, o3, hg3, hv3⟩ := seE.app (Own.made w2 (Nat.le_refl _) seC) (S2.out.own.alloc (.cells #[] 83)).src (by have := HL.out; have := HN.out; simp; omega) (by simp) 70
  rw [List.nil_append] at o3
  obtain ⟨g3, cap3, rfl, hg3b⟩ : ∃ g3 cap3, v3 = .slice (some ⟨g3, 0, none⟩) l.length cap3 ∧ w2.heap.size ≤ g3 := by
    rcases o3.cases with ⟨-, q⟩ | ⟨g3, cap3, hv, hb3, -⟩
    · have := HK.out; have := HN.out; rw [q] at this; simp at this; omega
    · exact ⟨g3, cap3, hv, hb3⟩
  have B3 : Below w2.heap.size w2 w3 := ((Below.refl w2.heap.size w2).alloc (Nat.le_refl _) (.cells #[] 83)).grown hg3 (by simp) (fun i hi => by simp [Value.ownBlock] at hi; omega)
  have S3 := Lib.hid (S2.out.next B3)
  rw [HN.out] at hrun
  obtain ⟨o4, hg4⟩ := o3.store seC_len k x (by rw [HN.out]; exact HK.out)
  have TH := o3.there seC_len k (by rw [HN.out]; exact HK.out)
  rw [HN.out] at o4
  have O4 := Lib.hid o4
  have B4 := Lib.hid (S3.out.below.grown hg4 S3.out.below.size (fun i hi => by have := S2.out.below.size; simp at hi; omega))
  have hk3 := S3.out.blk
  have c0 := S3.out.cells 0 _ rfl
  have c1 := S3.out.cells 1 _ rfl
  have c2 := S3.out.cells 2 _ rfl
  have c3 := S3.out.cells 3 _ rfl
  have c4 := S3.out.cells 4 _ rfl
  have c5 := S3.out.cells 5 _ rfl
  have c6 := S3.out.cells 6 _ rfl
  have c7 := S3.out.cells 7 _ rfl
  have THH := Lib.hid TH
  have hz0 := S2.out.below.size
  have HGB := Lib.hid (show w.heap.size ≤ g3 by omega)
  clear o3 o4 hg3 hg4 hv3 TH B3 hk3
  go_upto_region 8 with (first
    | (at_builtin; refine wpList_append_lst rfl _ _ 70 rfl _ w3 hrun ?_)
    | (refine wpList_store_mid rfl 83 _ _ rfl g3 (k * 8) (seA x) rfl rfl THH.out seinfo (seA_one x) ?_))
  go_wp2_with fail
  go_ret2
  exact ⟨_, ret_own R2.out, by rw [R1.out]; exact O4.out.mono (Nat.le_trans HBASE.out hz0), B4.out⟩

theorem Set10.blk' {w w1 : World} {base bx : Nat} {v : Value} {l : List Se} {x : Se} (h : Set10 w base v l x w1) (e : w.heap.size = bx) : Blk w1 bx (seA x) 83 := e ▸ h.blk
/-- The slots, while the region runs. -/
structure Ins10S (g bx n cap k : Nat) (x : Se) (f1 f2 f6 f7 f8 f10 f11 f12 f13 f14 f15 f16 f17 f18 f19 f20 f21 f22 f23 f24 f25 f26 f27 f28 f29 f30 f31 f32 f33 f34 f35 f36 f37 f38 f39 f40 f41 f42 f43 f44 f45 f46 f47 f48 f49 f50 f51 f52 f53 f54 f55 f56 f57 f58 f59 f60 f61 f62 f63 f64 f65 f66 f67 f68 f69 f70 f71 f72 f73 : Value) (L : Nat → Bool) (v4 v5 v74 v75 v76 v77 v78 v79 v80 v81 v82 v83 v84 v85 : Value) : Prop where
  e75 : L 1 = true → v75 = .slice (some ⟨g, 0, none⟩) n cap
  e76 : L 2 = true → v76 = .int .i64 (k : Nat)
  e77 : L 3 = true → v77 = .slice (some ⟨g, 0, none⟩) k cap
  e79 : L 5 = true → v79 = .agg (seA x)
  e82 : L 8 = true → v82 = .slice (some ⟨g, 0, none⟩) n cap
  e83 : L 9 = true → v83 = .int .i64 (k : Nat)
  e84 : L 10 = true → v84 = .slice (if cap = k then some ⟨g, 0, none⟩ else some ⟨g, k * 8, none⟩) (n - k) (cap - k)
  e5 : L 13 = true → v5 = .int .i64 0
  e4 : L 12 = true → v4 = v85 ∧ L 11 = true
abbrev Ins10F (g bx n cap k : Nat) (x : Se) (f1 f2 f6 f7 f8 f10 f11 f12 f13 f14 f15 f16 f17 f18 f19 f20 f21 f22 f23 f24 f25 f26 f27 f28 f29 f30 f31 f32 f33 f34 f35 f36 f37 f38 f39 f40 f41 f42 f43 f44 f45 f46 f47 f48 f49 f50 f51 f52 f53 f54 f55 f56 f57 f58 f59 f60 f61 f62 f63 f64 f65 f66 f67 f68 f69 f70 f71 f72 f73 : Value) (v4 v5 v74 v75 v76 v77 v78 v79 v80 v81 v82 v83 v84 v85 : Value) : Act := { tmps := #[.slice (some ⟨g, 0, none⟩) n cap, f1, f2, .pointer (some ⟨bx, 0, none⟩), v4, v5, f6, f7, f8, .int .i64 (k : Nat), f10, f11, f12, f13, f14, f15, f16, f17, f18, f19, f20, f21, f22, f23, f24, f25, f26, f27, f28, f29, f30, f31, f32, f33, f34, f35, f36, f37, f38, f39, f40, f41, f42, f43, f44, f45, f46, f47, f48, f49, f50, f51, f52, f53, f54, f55, f56, f57, f58, f59, f60, f61, f62, f63, f64, f65, f66, f67, f68, f69, f70, f71, f72, f73, v74, v75, v76, v77, v78, v79, v80, v81, v82, v83, v84, v85], defers := [] }
def Ins10I (g bx n cap k : Nat) (x : Se) (f1 f2 f6 f7 f8 f10 f11 f12 f13 f14 f15 f16 f17 f18 f19 f20 f21 f22 f23 f24 f25 f26 f27 f28 f29 f30 f31 f32 f33 f34 f35 f36 f37 f38 f39 f40 f41 f42 f43 f44 f45 f46 f47 f48 f49 f50 f51 f52 f53 f54 f55 f56 f57 f58 f59 f60 f61 f62 f63 f64 f65 f66 f67 f68 f69 f70 f71 f72 f73 : Value) (w5 : World) (l : List Se) (L : Nat → Bool) (a : Act) (w : World) : Prop :=
  ∃ v4 v5 v74 v75 v76 v77 v78 v79 v80 v81 v82 v83 v84 v85, a = Ins10F g bx n cap k x f1 f2 f6 f7 f8 f10 f11 f12 f13 f14 f15 f16 f17 f18 f19 f20 f21 f22 f23 f24 f25 f26 f27 f28 f29 f30 f31 f32 f33 f34 f35 f36 f37 f38 f39 f40 f41 f42 f43 f44 f45 f46 f47 f48 f49 f50 f51 f52 f53 f54 f55 f56 f57 f58 f59 f60 f61 f62 f63 f64 f65 f66 f67 f68 f69 f70 f71 f72 f73 v4 v5 v74 v75 v76 v77 v78 v79 v80 v81 v82 v83 v84 v85 ∧ Ins10S g bx n cap k x f1 f2 f6 f7 f8 f10 f11 f12 f13 f14 f15 f16 f17 f18 f19 f20 f21 f22 f23 f24 f25 f26 f27 f28 f29 f30 f31 f32 f33 f34 f35 f36 f37 f38 f39 f40 f41 f42 f43 f44 f45 f46 f47 f48 f49 f50 f51 f52 f53 f54 f55 f56 f57 f58 f59 f60 f61 f62 f63 f64 f65 f66 f67 f68 f69 f70 f71 f72 f73 L v4 v5 v74 v75 v76 v77 v78 v79 v80 v81 v82 v83 v84 v85 ∧ InsW 83 8 seC w5 (l.take k) x (l.drop k) (L 0) (L 4) (L 6) (L 7) (L 11) v74 v78 v80 v81 v85 w

set_option maxRecDepth 100000 in
set_option maxHeartbeats 16000000 in
theorem rset10_new (base g cap : Nat) (l : List Se) (x : Se) (w : World) (h : Own w base 83 8 seC (.slice (some ⟨g, 0, none⟩) l.length cap) l) (hok : ∀ y ∈ l, seOk y) (hx : seOk x) (hgd : ¬ goodS x ≠ 0) (hb : base ≤ w.heap.size) (hcap : l.length ≤ cap ∧ cap ≤ maxLen) (hat : atK seK (seK x) l = -1) (h16 : ¬ 16 ≤ l.length) :
    Calls Try.prog 34 #[.slice (some ⟨g, 0, none⟩) l.length cap, seV x] w (OwnS w base (setS l x) (setSE l x)) := by
  have hl : l.length ≤ 100 := by omega
  obtain ⟨k, hk⟩ : ∃ k, posK seK (seK x) l = k := ⟨_, rfl⟩
  have R1 := Lib.hid (show setS l x = l.take k ++ [x] ++ l.drop k by unfold setS; rw [if_neg hgd, hat, if_neg (by omega), if_neg h16]; unfold layK; rw [hk])
  have R2 := Lib.hid (show (0 : Int) = setSE l x by unfold setSE; rw [if_neg hgd, hat, if_neg (by omega), if_neg h16])
  have AT := Lib.hid hat
  have PK := posK_spec seK (seK x) l
  rw [hk] at PK
  obtain ⟨n, hn⟩ : ∃ n, l.length = n := ⟨_, rfl⟩
  rw [hn] at h h16 hl hcap PK ⊢
  have HN := Lib.hid hn
  have KN := Lib.hid PK.1
  have P2 := Lib.hid PK.2.1
  have P3 := Lib.hid PK.2.2
  have hn16 : (n : Int) < 16 := by omega
  have HCAP := Lib.hid hcap
  have hnc : (n : Int) ≤ cap := by omega
  have hcm : (cap : Int) ≤ 9223372036854775807 := by unfold maxLen at hcap; omega
  have HBASE := Lib.hid hb
  clear hat h16 hn hb hk PK hcap
  have hb0 := (Below.refl w.heap.size w).alloc (Nat.le_refl _) (.cells (seA x) 83)
  have S0 := Lib.hid (show Set10 w base (.slice (some ⟨g, 0, none⟩) n cap) l x (w.alloc (.cells (seA x) 83)) from ⟨Blk.new _ _ _, h.next hb0, hb0⟩)
  obtain ⟨G, hG⟩ : ∃ G, G = goodS x := ⟨_, rfl⟩
  rw [← hG] at hgd
  have HG := Lib.hid hG
  have G0 : G = 0 := by simpa using hgd
  subst G0
  have HOK := Lib.hid hok
  have HXO := Lib.hid hx
  have HL := Lib.hid hl
  clear h hb0 hG hgd hok hx hl
  go_enter Try.func34, Try.ntmps34
  go_upto_region 4 with (go_at_call 52; refine (rgood10 x _).mono ?_; rintro e w1 ⟨rfl, hb1⟩; rw [← HG.out])
  have S1 := Lib.hid (S0.out.next hb1)
  clear hb1 S0 HG
  have c0 := S1.out.cells 0 _ rfl
  have c1 := S1.out.cells 1 _ rfl
  have c2 := S1.out.cells 2 _ rfl
  have c3 := S1.out.cells 3 _ rfl
  have c4 := S1.out.cells 4 _ rfl
  have c5 := S1.out.cells 5 _ rfl
  have c6 := S1.out.cells 6 _ rfl
  have HA := Lib.hid (rat10_any base x.vid x.mac HXO.out (.slice (some ⟨g, 0, none⟩) n cap) l w1 S1.out.own HOK.out (by have := HL.out; have := HN.out; omega))
  rw [show keyN x.vid x.mac = seK x from rfl, AT.out] at HA
  go_upto_region 5 with (go_at_call 32; refine HA.out.mono ?_; rintro e w2 ⟨rfl, hb2⟩)
  have S2 := Lib.hid (S1.out.next hb2)
  clear hb2 S1 c0 c1 c2 c3 c4 c5 c6 HA
  generalize hbx : w.heap.size = bx at *
  have HBX := Lib.hid hbx
  clear hbx
  go_upto_region 12 with fail
  go_loopw [9] (fun i wr => ∃ j : Nat, i = .int .i64 j ∧ j ≤ k ∧ Set10 w base (.slice (some ⟨g, 0, none⟩) n cap) l x wr) (fun i _ => n - (intOf i).toNat)
  case atStart => exact ⟨0, rfl, Nat.zero_le _, S2.out⟩
  case round =>
    obtain ⟨j, rfl, hj, hSr⟩ := hrel
    have hS := Lib.hid hSr
    clear hSr S2
    by_cases hlt : j < k
    · have hjn : j < n := by have := KN.out; omega
      obtain ⟨y, hy⟩ : ∃ y, l[j]? = some y := ⟨_, List.getElem?_eq_getElem (show j < l.length by rw [HN.out]; exact hjn)⟩
      have hyk := P2.out j y hlt hy
      have HC0 := Lib.hid (show ∀ w', Set10 w base (.slice (some ⟨g, 0, none⟩) n cap) l x w' → w'.cell? ⟨g, j * 8, none⟩ = some (.int .u16 (y.vid : Nat)) from fun w' hC => Own.at seC_len (by rw [HN.out]; exact hC.own) j 0 y hy (by omega))
      have HX0 := Lib.hid (show ∀ w', Set10 w base (.slice (some ⟨g, 0, none⟩) n cap) l x w' → w'.cell? ⟨bx, 0, none⟩ = some (.int .u16 (x.vid : Nat)) from fun w' hC => by rw [(hC.blk' HBX.out).cell]; rfl)
      obtain ⟨my, hmy⟩ : ∃ my, my = macA (byteF y.mac) := ⟨_, rfl⟩
      obtain ⟨mx, hmx⟩ : ∃ mx, mx = macA (byteF x.mac) := ⟨_, rfl⟩
      have HMY := Lib.hid (show ∀ w', Set10 w base (.slice (some ⟨g, 0, none⟩) n cap) l x w' → w'.rangeAt g (j * 8 + 1) my.toList from fun w' hC i u hu => by
        have hi : i < 6 := by
          have := (List.getElem?_eq_some_iff.1 hu).1
          rw [hmy] at this
          simpa using this
        have q := Own.at seC_len (by rw [HN.out]; exact hC.own) j (1 + i) y hy (by omega)
        rw [Nat.add_assoc, q]
        exact se_mac y i u (by rw [hmy] at hu; simpa using hu))
      have HMX := Lib.hid (show ∀ w', Set10 w base (.slice (some ⟨g, 0, none⟩) n cap) l x w' → w'.rangeAt bx 1 mx.toList from fun w' hC i u hu => by
        rw [(hC.blk' HBX.out).cell]
        have q := se_mac x i u (by rw [hmx] at hu; simpa using hu)
        unfold seC at q
        rw [Array.getElem?_toList] at q
        exact q)
      have HM6 := Lib.hid (show (Try.prog.info? 31).map (·.size) = some my.size by rw [hmy]; kernel_rfl)
      have HM7 := Lib.hid (show (Try.prog.info? 31).map (·.size) = some mx.size by rw [hmx]; kernel_rfl)
      have HYO := Lib.hid (HOK.out y (List.mem_of_getElem? hy))
      have HI1 := Lib.hid (show ∀ W : World, Calls Try.prog 24 #[.agg my] W fun e w' => e = .returned (.int .u64 (y.mac : Nat)) ∧ Below W.heap.size W w' from fun W => by
        rw [hmy]
        have := rint_any (byteF y.mac) W (byteF_six _)
        rwa [numF_byteF, Nat.mod_eq_of_lt HYO.out] at this)
      have HI2 := Lib.hid (show ∀ W : World, Calls Try.prog 24 #[.agg mx] W fun e w' => e = .returned (.int .u64 (x.mac : Nat)) ∧ Below W.heap.size W w' from fun W => by
        rw [hmx]
        have := rint_any (byteF x.mac) W (byteF_six _)
        rwa [numF_byteF, Nat.mod_eq_of_lt HXO.out] at this)
      have hjn' : (j : Int) < n := by omega
      clear hy hmy hmx
      unfold seK at hyk
      rw [keyN_lt HYO.out HXO.out] at hyk
      by_cases hv : y.vid < x.vid
      · have HE1 := Lib.hid (show decide (y.vid < x.vid) = true from decide_eq_true hv)
        clear hv hyk
        go_upto_region 12 with fail
        refine wp_region_quiet (C := Set10 w base (.slice (some ⟨g, 0, none⟩) n cap) l x) (by kernel_rfl) (by kernel_rfl) (hS.out.next (Below.refl _ _).drew) ?_
        (refine q_val (v := ?_) (by rfl) ?_ ?_; rotate_left; (· (intro w hC; go_simp; try with_reducible rfl)); (try simp only [Act.put, List.getElem_toArray, List.getElem_cons_succ, List.getElem_cons_zero, List.setIfInBounds_toArray, List.set_cons_zero, List.set_cons_succ]))
        (refine q_val (v := ?_) (by rfl) ?_ ?_; rotate_left; (· (intro w hC; go_simp; try with_reducible rfl)); (try simp only [Act.put, List.getElem_toArray, List.getElem_cons_succ, List.getElem_cons_zero, List.setIfInBounds_toArray, List.set_cons_zero, List.set_cons_succ]))
        (refine q_val (v := ?_) (by rfl) ?_ ?_; rotate_left; (· (intro w hC; go_simp; try with_reducible rfl)); (try simp only [Act.put, List.getElem_toArray, List.getElem_cons_succ, List.getElem_cons_zero, List.setIfInBounds_toArray, List.set_cons_zero, List.set_cons_succ]))
        (refine q_val (v := ?_) (by rfl) ?_ ?_; rotate_left; (· (intro w hC; go_simp; try with_reducible rfl)); (try simp only [Act.put, List.getElem_toArray, List.getElem_cons_succ, List.getElem_cons_zero, List.setIfInBounds_toArray, List.set_cons_zero, List.set_cons_succ]))
        (refine q_val (v := ?_) (by rfl) ?_ ?_; rotate_left; (· (intro w hC; go_simp; try with_reducible rfl)); (try simp only [Act.put, List.getElem_toArray, List.getElem_cons_succ, List.getElem_cons_zero, List.setIfInBounds_toArray, List.set_cons_zero, List.set_cons_succ]))
        (refine q_val (v := ?_) (by rfl) ?_ ?_; rotate_left; (· (intro w hC; go_simp; try with_reducible rfl)); (try simp only [Act.put, List.getElem_toArray, List.getElem_cons_succ, List.getElem_cons_zero, List.setIfInBounds_toArray, List.set_cons_zero, List.set_cons_succ]))
        (refine q_val (v := ?_) (by rfl) ?_ ?_; rotate_left; (· (intro w hC; go_simp; try with_reducible rfl)); (try simp only [Act.put, List.getElem_toArray, List.getElem_cons_succ, List.getElem_cons_zero, List.setIfInBounds_toArray, List.set_cons_zero, List.set_cons_succ]))
        (refine q_val (v := ?_) (by rfl) ?_ ?_; rotate_left; (· (intro w hC; go_simp; try with_reducible rfl)); (try simp only [Act.put, List.getElem_toArray, List.getElem_cons_succ, List.getElem_cons_zero, List.setIfInBounds_toArray, List.set_cons_zero, List.set_cons_succ]))
        (refine q_val (v := ?_) (by rfl) ?_ ?_; rotate_left; (· (intro w hC; go_simp; try with_reducible rfl)); (try simp only [Act.put, List.getElem_toArray, List.getElem_cons_succ, List.getElem_cons_zero, List.setIfInBounds_toArray, List.set_cons_zero, List.set_cons_succ]))
        (refine q_val (v := ?_) (by rfl) ?_ ?_; rotate_left; (· (intro w hC; have q := HC0.out w hC; go_simp; try with_reducible rfl)); (try simp only [Act.put, List.getElem_toArray, List.getElem_cons_succ, List.getElem_cons_zero, List.setIfInBounds_toArray, List.set_cons_zero, List.set_cons_succ]))
        (refine q_val (v := ?_) (by rfl) ?_ ?_; rotate_left; (· (intro w hC; go_simp; try with_reducible rfl)); (try simp only [Act.put, List.getElem_toArray, List.getElem_cons_succ, List.getElem_cons_zero, List.setIfInBounds_toArray, List.set_cons_zero, List.set_cons_succ]))
        (refine q_val (v := ?_) (by rfl) ?_ ?_; rotate_left; (· (intro w hC; have q := HX0.out w hC; go_simp; try with_reducible rfl)); (try simp only [Act.put, List.getElem_toArray, List.getElem_cons_succ, List.getElem_cons_zero, List.setIfInBounds_toArray, List.set_cons_zero, List.set_cons_succ]))
        (refine q_val (v := ?_) (by rfl) ?_ ?_; rotate_left; (· (intro w hC; have q := HE1.out; go_simp; try with_reducible rfl)); (try simp only [Act.put, List.getElem_toArray, List.getElem_cons_succ, List.getElem_cons_zero, List.setIfInBounds_toArray, List.set_cons_zero, List.set_cons_succ]))
        (refine q_val (v := ?_) (by rfl) ?_ ?_; rotate_left; (· (intro w hC; go_simp; try with_reducible rfl)); (try simp only [Act.put, List.getElem_toArray, List.getElem_cons_succ, List.getElem_cons_zero, List.setIfInBounds_toArray, List.set_cons_zero, List.set_cons_succ]))
        (refine q_skip (by rfl) ?_; (try simp only [Act.put, List.getElem_toArray, List.getElem_cons_succ, List.getElem_cons_zero, List.setIfInBounds_toArray, List.set_cons_zero, List.set_cons_succ]))
        (refine q_skip (by rfl) ?_; (try simp only [Act.put, List.getElem_toArray, List.getElem_cons_succ, List.getElem_cons_zero, List.setIfInBounds_toArray, List.set_cons_zero, List.set_cons_succ]))
        (refine q_skip (by rfl) ?_; (try simp only [Act.put, List.getElem_toArray, List.getElem_cons_succ, List.getElem_cons_zero, List.setIfInBounds_toArray, List.set_cons_zero, List.set_cons_succ]))
        (refine q_skip (by rfl) ?_; (try simp only [Act.put, List.getElem_toArray, List.getElem_cons_succ, List.getElem_cons_zero, List.setIfInBounds_toArray, List.set_cons_zero, List.set_cons_succ]))
        (refine q_skip (by rfl) ?_; (try simp only [Act.put, List.getElem_toArray, List.getElem_cons_succ, List.getElem_cons_zero, List.setIfInBounds_toArray, List.set_cons_zero, List.set_cons_succ]))
        (refine q_skip (by rfl) ?_; (try simp only [Act.put, List.getElem_toArray, List.getElem_cons_succ, List.getElem_cons_zero, List.setIfInBounds_toArray, List.set_cons_zero, List.set_cons_succ]))
        (refine q_skip (by rfl) ?_; (try simp only [Act.put, List.getElem_toArray, List.getElem_cons_succ, List.getElem_cons_zero, List.setIfInBounds_toArray, List.set_cons_zero, List.set_cons_succ]))
        (refine q_skip (by rfl) ?_; (try simp only [Act.put, List.getElem_toArray, List.getElem_cons_succ, List.getElem_cons_zero, List.setIfInBounds_toArray, List.set_cons_zero, List.set_cons_succ]))
        (refine q_skip (by rfl) ?_; (try simp only [Act.put, List.getElem_toArray, List.getElem_cons_succ, List.getElem_cons_zero, List.setIfInBounds_toArray, List.set_cons_zero, List.set_cons_succ]))
        (refine q_skip (by rfl) ?_; (try simp only [Act.put, List.getElem_toArray, List.getElem_cons_succ, List.getElem_cons_zero, List.setIfInBounds_toArray, List.set_cons_zero, List.set_cons_succ]))
        (refine q_skip (by rfl) ?_; (try simp only [Act.put, List.getElem_toArray, List.getElem_cons_succ, List.getElem_cons_zero, List.setIfInBounds_toArray, List.set_cons_zero, List.set_cons_succ]))
        (refine q_skip (by rfl) ?_; (try simp only [Act.put, List.getElem_toArray, List.getElem_cons_succ, List.getElem_cons_zero, List.setIfInBounds_toArray, List.set_cons_zero, List.set_cons_succ]))
        (refine q_skip (by rfl) ?_; (try simp only [Act.put, List.getElem_toArray, List.getElem_cons_succ, List.getElem_cons_zero, List.setIfInBounds_toArray, List.set_cons_zero, List.set_cons_succ]))
        (refine q_skip (by rfl) ?_; (try simp only [Act.put, List.getElem_toArray, List.getElem_cons_succ, List.getElem_cons_zero, List.setIfInBounds_toArray, List.set_cons_zero, List.set_cons_succ]))
        (refine q_skip (by rfl) ?_; (try simp only [Act.put, List.getElem_toArray, List.getElem_cons_succ, List.getElem_cons_zero, List.setIfInBounds_toArray, List.set_cons_zero, List.set_cons_succ]))
        (refine q_skip (by rfl) ?_; (try simp only [Act.put, List.getElem_toArray, List.getElem_cons_succ, List.getElem_cons_zero, List.setIfInBounds_toArray, List.set_cons_zero, List.set_cons_succ]))
        (refine q_skip (by rfl) ?_; (try simp only [Act.put, List.getElem_toArray, List.getElem_cons_succ, List.getElem_cons_zero, List.setIfInBounds_toArray, List.set_cons_zero, List.set_cons_succ]))
        (refine q_skip (by rfl) ?_; (try simp only [Act.put, List.getElem_toArray, List.getElem_cons_succ, List.getElem_cons_zero, List.setIfInBounds_toArray, List.set_cons_zero, List.set_cons_succ]))
        (refine q_skip (by rfl) ?_; (try simp only [Act.put, List.getElem_toArray, List.getElem_cons_succ, List.getElem_cons_zero, List.setIfInBounds_toArray, List.set_cons_zero, List.set_cons_succ]))
        (refine q_skip (by rfl) ?_; (try simp only [Act.put, List.getElem_toArray, List.getElem_cons_succ, List.getElem_cons_zero, List.setIfInBounds_toArray, List.set_cons_zero, List.set_cons_succ]))
        (refine q_val (v := ?_) (by rfl) ?_ ?_; rotate_left; (· (intro w hC; go_simp; try with_reducible rfl)); (try simp only [Act.put, List.getElem_toArray, List.getElem_cons_succ, List.getElem_cons_zero, List.setIfInBounds_toArray, List.set_cons_zero, List.set_cons_succ]))
        (refine q_val (v := ?_) (by rfl) ?_ ?_; rotate_left; (· (intro w hC; go_simp; try with_reducible rfl)); (try simp only [Act.put, List.getElem_toArray, List.getElem_cons_succ, List.getElem_cons_zero, List.setIfInBounds_toArray, List.set_cons_zero, List.set_cons_succ]))
        refine wpQuiet_nil ?_
        intro w5 hC5
        have S5 := Lib.hid hC5
        clear hC5
        go_wp2_with fail
        go_roundw
        case rel => exact ⟨j + 1, by go_num, by omega, S5.out⟩
        case measure => simp [intOf]; omega
      · have hve : y.vid = x.vid := by omega
        have hma : y.mac < x.mac := by omega
        have HE1 := Lib.hid (show decide (y.vid < x.vid) = false from decide_eq_false hv)
        have HE2 := Lib.hid (show ((y.vid : Int) == (x.vid : Int)) = true by rw [hve]; simp)
        have HE3 := Lib.hid (show decide (y.mac < x.mac) = true from decide_eq_true hma)
        clear hv hyk hve hma
        go_upto_region 12 with fail
        refine wp_region_quiet (C := Set10 w base (.slice (some ⟨g, 0, none⟩) n cap) l x) (by kernel_rfl) (by kernel_rfl) (hS.out.next (Below.refl _ _).drew) ?_
        (refine q_val (v := ?_) (by rfl) ?_ ?_; rotate_left; (· (intro w hC; go_simp; try with_reducible rfl)); (try simp only [Act.put, List.getElem_toArray, List.getElem_cons_succ, List.getElem_cons_zero, List.setIfInBounds_toArray, List.set_cons_zero, List.set_cons_succ]))
        (refine q_val (v := ?_) (by rfl) ?_ ?_; rotate_left; (· (intro w hC; go_simp; try with_reducible rfl)); (try simp only [Act.put, List.getElem_toArray, List.getElem_cons_succ, List.getElem_cons_zero, List.setIfInBounds_toArray, List.set_cons_zero, List.set_cons_succ]))
        (refine q_val (v := ?_) (by rfl) ?_ ?_; rotate_left; (· (intro w hC; go_simp; try with_reducible rfl)); (try simp only [Act.put, List.getElem_toArray, List.getElem_cons_succ, List.getElem_cons_zero, List.setIfInBounds_toArray, List.set_cons_zero, List.set_cons_succ]))
        (refine q_val (v := ?_) (by rfl) ?_ ?_; rotate_left; (· (intro w hC; go_simp; try with_reducible rfl)); (try simp only [Act.put, List.getElem_toArray, List.getElem_cons_succ, List.getElem_cons_zero, List.setIfInBounds_toArray, List.set_cons_zero, List.set_cons_succ]))
        (refine q_val (v := ?_) (by rfl) ?_ ?_; rotate_left; (· (intro w hC; go_simp; try with_reducible rfl)); (try simp only [Act.put, List.getElem_toArray, List.getElem_cons_succ, List.getElem_cons_zero, List.setIfInBounds_toArray, List.set_cons_zero, List.set_cons_succ]))
        (refine q_val (v := ?_) (by rfl) ?_ ?_; rotate_left; (· (intro w hC; go_simp; try with_reducible rfl)); (try simp only [Act.put, List.getElem_toArray, List.getElem_cons_succ, List.getElem_cons_zero, List.setIfInBounds_toArray, List.set_cons_zero, List.set_cons_succ]))
        (refine q_val (v := ?_) (by rfl) ?_ ?_; rotate_left; (· (intro w hC; go_simp; try with_reducible rfl)); (try simp only [Act.put, List.getElem_toArray, List.getElem_cons_succ, List.getElem_cons_zero, List.setIfInBounds_toArray, List.set_cons_zero, List.set_cons_succ]))
        (refine q_val (v := ?_) (by rfl) ?_ ?_; rotate_left; (· (intro w hC; go_simp; try with_reducible rfl)); (try simp only [Act.put, List.getElem_toArray, List.getElem_cons_succ, List.getElem_cons_zero, List.setIfInBounds_toArray, List.set_cons_zero, List.set_cons_succ]))
        (refine q_val (v := ?_) (by rfl) ?_ ?_; rotate_left; (· (intro w hC; go_simp; try with_reducible rfl)); (try simp only [Act.put, List.getElem_toArray, List.getElem_cons_succ, List.getElem_cons_zero, List.setIfInBounds_toArray, List.set_cons_zero, List.set_cons_succ]))
        (refine q_val (v := ?_) (by rfl) ?_ ?_; rotate_left; (· (intro w hC; have q := HC0.out w hC; go_simp; try with_reducible rfl)); (try simp only [Act.put, List.getElem_toArray, List.getElem_cons_succ, List.getElem_cons_zero, List.setIfInBounds_toArray, List.set_cons_zero, List.set_cons_succ]))
        (refine q_val (v := ?_) (by rfl) ?_ ?_; rotate_left; (· (intro w hC; go_simp; try with_reducible rfl)); (try simp only [Act.put, List.getElem_toArray, List.getElem_cons_succ, List.getElem_cons_zero, List.setIfInBounds_toArray, List.set_cons_zero, List.set_cons_succ]))
        (refine q_val (v := ?_) (by rfl) ?_ ?_; rotate_left; (· (intro w hC; have q := HX0.out w hC; go_simp; try with_reducible rfl)); (try simp only [Act.put, List.getElem_toArray, List.getElem_cons_succ, List.getElem_cons_zero, List.setIfInBounds_toArray, List.set_cons_zero, List.set_cons_succ]))
        (refine q_val (v := ?_) (by rfl) ?_ ?_; rotate_left; (· (intro w hC; have q := HE1.out; go_simp; try with_reducible rfl)); (try simp only [Act.put, List.getElem_toArray, List.getElem_cons_succ, List.getElem_cons_zero, List.setIfInBounds_toArray, List.set_cons_zero, List.set_cons_succ]))
        (refine q_val (v := ?_) (by rfl) ?_ ?_; rotate_left; (· (intro w hC; go_simp; try with_reducible rfl)); (try simp only [Act.put, List.getElem_toArray, List.getElem_cons_succ, List.getElem_cons_zero, List.setIfInBounds_toArray, List.set_cons_zero, List.set_cons_succ]))
        (refine q_val (v := ?_) (by rfl) ?_ ?_; rotate_left; (· (intro w hC; go_simp; try with_reducible rfl)); (try simp only [Act.put, List.getElem_toArray, List.getElem_cons_succ, List.getElem_cons_zero, List.setIfInBounds_toArray, List.set_cons_zero, List.set_cons_succ]))
        (refine q_val (v := ?_) (by rfl) ?_ ?_; rotate_left; (· (intro w hC; go_simp; try with_reducible rfl)); (try simp only [Act.put, List.getElem_toArray, List.getElem_cons_succ, List.getElem_cons_zero, List.setIfInBounds_toArray, List.set_cons_zero, List.set_cons_succ]))
        (refine q_val (v := ?_) (by rfl) ?_ ?_; rotate_left; (· (intro w hC; go_simp; try with_reducible rfl)); (try simp only [Act.put, List.getElem_toArray, List.getElem_cons_succ, List.getElem_cons_zero, List.setIfInBounds_toArray, List.set_cons_zero, List.set_cons_succ]))
        (refine q_val (v := ?_) (by rfl) ?_ ?_; rotate_left; (· (intro w hC; go_simp; try with_reducible rfl)); (try simp only [Act.put, List.getElem_toArray, List.getElem_cons_succ, List.getElem_cons_zero, List.setIfInBounds_toArray, List.set_cons_zero, List.set_cons_succ]))
        (refine q_val (v := ?_) (by rfl) ?_ ?_; rotate_left; (· (intro w hC; have q := HC0.out w hC; go_simp; try with_reducible rfl)); (try simp only [Act.put, List.getElem_toArray, List.getElem_cons_succ, List.getElem_cons_zero, List.setIfInBounds_toArray, List.set_cons_zero, List.set_cons_succ]))
        (refine q_val (v := ?_) (by rfl) ?_ ?_; rotate_left; (· (intro w hC; go_simp; try with_reducible rfl)); (try simp only [Act.put, List.getElem_toArray, List.getElem_cons_succ, List.getElem_cons_zero, List.setIfInBounds_toArray, List.set_cons_zero, List.set_cons_succ]))
        (refine q_val (v := ?_) (by rfl) ?_ ?_; rotate_left; (· (intro w hC; have q := HX0.out w hC; go_simp; try with_reducible rfl)); (try simp only [Act.put, List.getElem_toArray, List.getElem_cons_succ, List.getElem_cons_zero, List.setIfInBounds_toArray, List.set_cons_zero, List.set_cons_succ]))
        (refine q_val (v := ?_) (by rfl) ?_ ?_; rotate_left; (· (intro w hC; have q := HE2.out; go_simp; try with_reducible rfl)); (try simp only [Act.put, List.getElem_toArray, List.getElem_cons_succ, List.getElem_cons_zero, List.setIfInBounds_toArray, List.set_cons_zero, List.set_cons_succ]))
        (refine q_val (v := ?_) (by rfl) ?_ ?_; rotate_left; (· (intro w hC; go_simp; try with_reducible rfl)); (try simp only [Act.put, List.getElem_toArray, List.getElem_cons_succ, List.getElem_cons_zero, List.setIfInBounds_toArray, List.set_cons_zero, List.set_cons_succ]))
        (refine q_val (v := ?_) (by rfl) ?_ ?_; rotate_left; (· (intro w hC; go_simp; try with_reducible rfl)); (try simp only [Act.put, List.getElem_toArray, List.getElem_cons_succ, List.getElem_cons_zero, List.setIfInBounds_toArray, List.set_cons_zero, List.set_cons_succ]))
        (refine q_val (v := ?_) (by rfl) ?_ ?_; rotate_left; (· (intro w hC; go_simp; try with_reducible rfl)); (try simp only [Act.put, List.getElem_toArray, List.getElem_cons_succ, List.getElem_cons_zero, List.setIfInBounds_toArray, List.set_cons_zero, List.set_cons_succ]))
        (refine q_val (v := ?_) (by rfl) ?_ ?_; rotate_left; (· (intro w hC; go_simp; try with_reducible rfl)); (try simp only [Act.put, List.getElem_toArray, List.getElem_cons_succ, List.getElem_cons_zero, List.setIfInBounds_toArray, List.set_cons_zero, List.set_cons_succ]))
        (refine q_val (v := ?_) (by rfl) ?_ ?_; rotate_left; (· (intro w hC; go_simp; try with_reducible rfl)); (try simp only [Act.put, List.getElem_toArray, List.getElem_cons_succ, List.getElem_cons_zero, List.setIfInBounds_toArray, List.set_cons_zero, List.set_cons_succ]))
        (refine q_val (v := .agg my) (by rfl) (fun w hC => run_loadRange 31 _ rfl g (j * 8 + 1) rfl my _ (HMY.out w hC) Try.underlying31 rfl HM6.out) ?_; (try simp only [Act.put, List.getElem_toArray, List.getElem_cons_succ, List.getElem_cons_zero, List.setIfInBounds_toArray, List.set_cons_zero, List.set_cons_succ]))
        (refine q_call (v := .int .u64 (y.mac : Nat)) 24 #[.agg my] (by rfl) (fun w hC => by go_simp) (fun w hC => calls_in (HI1.out w) (fun w' hb => hC.next hb)) ?_; (try simp only [Act.put, List.getElem_toArray, List.getElem_cons_succ, List.getElem_cons_zero, List.setIfInBounds_toArray, List.set_cons_zero, List.set_cons_succ]))
        (refine q_val (v := ?_) (by rfl) ?_ ?_; rotate_left; (· (intro w hC; go_simp; try with_reducible rfl)); (try simp only [Act.put, List.getElem_toArray, List.getElem_cons_succ, List.getElem_cons_zero, List.setIfInBounds_toArray, List.set_cons_zero, List.set_cons_succ]))
        (refine q_val (v := .agg mx) (by rfl) (fun w hC => run_loadRange 31 _ rfl bx 1 rfl mx _ (HMX.out w hC) Try.underlying31 rfl HM7.out) ?_; (try simp only [Act.put, List.getElem_toArray, List.getElem_cons_succ, List.getElem_cons_zero, List.setIfInBounds_toArray, List.set_cons_zero, List.set_cons_succ]))
        (refine q_call (v := .int .u64 (x.mac : Nat)) 24 #[.agg mx] (by rfl) (fun w hC => by go_simp) (fun w hC => calls_in (HI2.out w) (fun w' hb => hC.next hb)) ?_; (try simp only [Act.put, List.getElem_toArray, List.getElem_cons_succ, List.getElem_cons_zero, List.setIfInBounds_toArray, List.set_cons_zero, List.set_cons_succ]))
        (refine q_val (v := ?_) (by rfl) ?_ ?_; rotate_left; (· (intro w hC; have q := HE3.out; go_simp; try with_reducible rfl)); (try simp only [Act.put, List.getElem_toArray, List.getElem_cons_succ, List.getElem_cons_zero, List.setIfInBounds_toArray, List.set_cons_zero, List.set_cons_succ]))
        (refine q_val (v := ?_) (by rfl) ?_ ?_; rotate_left; (· (intro w hC; go_simp; try with_reducible rfl)); (try simp only [Act.put, List.getElem_toArray, List.getElem_cons_succ, List.getElem_cons_zero, List.setIfInBounds_toArray, List.set_cons_zero, List.set_cons_succ]))
        (refine q_val (v := ?_) (by rfl) ?_ ?_; rotate_left; (· (intro w hC; go_simp; try with_reducible rfl)); (try simp only [Act.put, List.getElem_toArray, List.getElem_cons_succ, List.getElem_cons_zero, List.setIfInBounds_toArray, List.set_cons_zero, List.set_cons_succ]))
        (refine q_val (v := ?_) (by rfl) ?_ ?_; rotate_left; (· (intro w hC; go_simp; try with_reducible rfl)); (try simp only [Act.put, List.getElem_toArray, List.getElem_cons_succ, List.getElem_cons_zero, List.setIfInBounds_toArray, List.set_cons_zero, List.set_cons_succ]))
        refine wpQuiet_nil ?_
        intro w5 hC5
        have S5 := Lib.hid hC5
        clear hC5
        go_wp2_with fail
        go_roundw
        case rel => exact ⟨j + 1, by go_num, by omega, S5.out⟩
        case measure => simp [intOf]; omega
    · obtain rfl : k = j := by omega
      by_cases hjn : k < n
      · obtain ⟨y, hy⟩ : ∃ y, l[k]? = some y := ⟨_, List.getElem?_eq_getElem (show k < l.length by rw [HN.out]; exact hjn)⟩
        have hyk := P3.out y hy
        have HC0 := Lib.hid (show ∀ w', Set10 w base (.slice (some ⟨g, 0, none⟩) n cap) l x w' → w'.cell? ⟨g, k * 8, none⟩ = some (.int .u16 (y.vid : Nat)) from fun w' hC => Own.at seC_len (by rw [HN.out]; exact hC.own) k 0 y hy (by omega))
        have HX0 := Lib.hid (show ∀ w', Set10 w base (.slice (some ⟨g, 0, none⟩) n cap) l x w' → w'.cell? ⟨bx, 0, none⟩ = some (.int .u16 (x.vid : Nat)) from fun w' hC => by rw [(hC.blk' HBX.out).cell]; rfl)
        obtain ⟨my, hmy⟩ : ∃ my, my = macA (byteF y.mac) := ⟨_, rfl⟩
        obtain ⟨mx, hmx⟩ : ∃ mx, mx = macA (byteF x.mac) := ⟨_, rfl⟩
        have HMY := Lib.hid (show ∀ w', Set10 w base (.slice (some ⟨g, 0, none⟩) n cap) l x w' → w'.rangeAt g (k * 8 + 1) my.toList from fun w' hC i u hu => by
          have hi : i < 6 := by
            have := (List.getElem?_eq_some_iff.1 hu).1
            rw [hmy] at this
            simpa using this
          have q := Own.at seC_len (by rw [HN.out]; exact hC.own) k (1 + i) y hy (by omega)
          rw [Nat.add_assoc, q]
          exact se_mac y i u (by rw [hmy] at hu; simpa using hu))
        have HMX := Lib.hid (show ∀ w', Set10 w base (.slice (some ⟨g, 0, none⟩) n cap) l x w' → w'.rangeAt bx 1 mx.toList from fun w' hC i u hu => by
          rw [(hC.blk' HBX.out).cell]
          have q := se_mac x i u (by rw [hmx] at hu; simpa using hu)
          unfold seC at q
          rw [Array.getElem?_toList] at q
          exact q)
        have HM6 := Lib.hid (show (Try.prog.info? 31).map (·.size) = some my.size by rw [hmy]; kernel_rfl)
        have HM7 := Lib.hid (show (Try.prog.info? 31).map (·.size) = some mx.size by rw [hmx]; kernel_rfl)
        have HYO := Lib.hid (HOK.out y (List.mem_of_getElem? hy))
        have HI1 := Lib.hid (show ∀ W : World, Calls Try.prog 24 #[.agg my] W fun e w' => e = .returned (.int .u64 (y.mac : Nat)) ∧ Below W.heap.size W w' from fun W => by
          rw [hmy]
          have := rint_any (byteF y.mac) W (byteF_six _)
          rwa [numF_byteF, Nat.mod_eq_of_lt HYO.out] at this)
        have HI2 := Lib.hid (show ∀ W : World, Calls Try.prog 24 #[.agg mx] W fun e w' => e = .returned (.int .u64 (x.mac : Nat)) ∧ Below W.heap.size W w' from fun W => by
          rw [hmx]
          have := rint_any (byteF x.mac) W (byteF_six _)
          rwa [numF_byteF, Nat.mod_eq_of_lt HXO.out] at this)
        have hjn' : (k : Int) < n := by omega
        clear hy hmy hmx
        unfold seK at hyk
        rw [keyN_lt HYO.out HXO.out] at hyk
        have hv : ¬ y.vid < x.vid := fun q => hyk (.inl q)
        by_cases hve : y.vid = x.vid
        · have hma : ¬ y.mac < x.mac := fun q => hyk (.inr ⟨hve, q⟩)
          have HE1 := Lib.hid (show decide (y.vid < x.vid) = false from decide_eq_false hv)
          have HE2 := Lib.hid (show ((y.vid : Int) == (x.vid : Int)) = true by rw [hve]; simp)
          have HE3 := Lib.hid (show decide (y.mac < x.mac) = false from decide_eq_false hma)
          clear hv hyk hve hma hlt hj hjn
          go_upto_region 12 with fail
          refine wp_region_quiet (C := Set10 w base (.slice (some ⟨g, 0, none⟩) n cap) l x) (by kernel_rfl) (by kernel_rfl) (hS.out.next (Below.refl _ _).drew) ?_
          (refine q_val (v := ?_) (by rfl) ?_ ?_; rotate_left; (· (intro w hC; go_simp; try with_reducible rfl)); (try simp only [Act.put, List.getElem_toArray, List.getElem_cons_succ, List.getElem_cons_zero, List.setIfInBounds_toArray, List.set_cons_zero, List.set_cons_succ]))
          (refine q_val (v := ?_) (by rfl) ?_ ?_; rotate_left; (· (intro w hC; go_simp; try with_reducible rfl)); (try simp only [Act.put, List.getElem_toArray, List.getElem_cons_succ, List.getElem_cons_zero, List.setIfInBounds_toArray, List.set_cons_zero, List.set_cons_succ]))
          (refine q_val (v := ?_) (by rfl) ?_ ?_; rotate_left; (· (intro w hC; go_simp; try with_reducible rfl)); (try simp only [Act.put, List.getElem_toArray, List.getElem_cons_succ, List.getElem_cons_zero, List.setIfInBounds_toArray, List.set_cons_zero, List.set_cons_succ]))
          (refine q_val (v := ?_) (by rfl) ?_ ?_; rotate_left; (· (intro w hC; go_simp; try with_reducible rfl)); (try simp only [Act.put, List.getElem_toArray, List.getElem_cons_succ, List.getElem_cons_zero, List.setIfInBounds_toArray, List.set_cons_zero, List.set_cons_succ]))
          (refine q_val (v := ?_) (by rfl) ?_ ?_; rotate_left; (· (intro w hC; go_simp; try with_reducible rfl)); (try simp only [Act.put, List.getElem_toArray, List.getElem_cons_succ, List.getElem_cons_zero, List.setIfInBounds_toArray, List.set_cons_zero, List.set_cons_succ]))
          (refine q_val (v := ?_) (by rfl) ?_ ?_; rotate_left; (· (intro w hC; go_simp; try with_reducible rfl)); (try simp only [Act.put, List.getElem_toArray, List.getElem_cons_succ, List.getElem_cons_zero, List.setIfInBounds_toArray, List.set_cons_zero, List.set_cons_succ]))
          (refine q_val (v := ?_) (by rfl) ?_ ?_; rotate_left; (· (intro w hC; go_simp; try with_reducible rfl)); (try simp only [Act.put, List.getElem_toArray, List.getElem_cons_succ, List.getElem_cons_zero, List.setIfInBounds_toArray, List.set_cons_zero, List.set_cons_succ]))
          (refine q_val (v := ?_) (by rfl) ?_ ?_; rotate_left; (· (intro w hC; go_simp; try with_reducible rfl)); (try simp only [Act.put, List.getElem_toArray, List.getElem_cons_succ, List.getElem_cons_zero, List.setIfInBounds_toArray, List.set_cons_zero, List.set_cons_succ]))
          (refine q_val (v := ?_) (by rfl) ?_ ?_; rotate_left; (· (intro w hC; go_simp; try with_reducible rfl)); (try simp only [Act.put, List.getElem_toArray, List.getElem_cons_succ, List.getElem_cons_zero, List.setIfInBounds_toArray, List.set_cons_zero, List.set_cons_succ]))
          (refine q_val (v := ?_) (by rfl) ?_ ?_; rotate_left; (· (intro w hC; have q := HC0.out w hC; go_simp; try with_reducible rfl)); (try simp only [Act.put, List.getElem_toArray, List.getElem_cons_succ, List.getElem_cons_zero, List.setIfInBounds_toArray, List.set_cons_zero, List.set_cons_succ]))
          (refine q_val (v := ?_) (by rfl) ?_ ?_; rotate_left; (· (intro w hC; go_simp; try with_reducible rfl)); (try simp only [Act.put, List.getElem_toArray, List.getElem_cons_succ, List.getElem_cons_zero, List.setIfInBounds_toArray, List.set_cons_zero, List.set_cons_succ]))
          (refine q_val (v := ?_) (by rfl) ?_ ?_; rotate_left; (· (intro w hC; have q := HX0.out w hC; go_simp; try with_reducible rfl)); (try simp only [Act.put, List.getElem_toArray, List.getElem_cons_succ, List.getElem_cons_zero, List.setIfInBounds_toArray, List.set_cons_zero, List.set_cons_succ]))
          (refine q_val (v := ?_) (by rfl) ?_ ?_; rotate_left; (· (intro w hC; have q := HE1.out; go_simp; try with_reducible rfl)); (try simp only [Act.put, List.getElem_toArray, List.getElem_cons_succ, List.getElem_cons_zero, List.setIfInBounds_toArray, List.set_cons_zero, List.set_cons_succ]))
          (refine q_val (v := ?_) (by rfl) ?_ ?_; rotate_left; (· (intro w hC; go_simp; try with_reducible rfl)); (try simp only [Act.put, List.getElem_toArray, List.getElem_cons_succ, List.getElem_cons_zero, List.setIfInBounds_toArray, List.set_cons_zero, List.set_cons_succ]))
          (refine q_val (v := ?_) (by rfl) ?_ ?_; rotate_left; (· (intro w hC; go_simp; try with_reducible rfl)); (try simp only [Act.put, List.getElem_toArray, List.getElem_cons_succ, List.getElem_cons_zero, List.setIfInBounds_toArray, List.set_cons_zero, List.set_cons_succ]))
          (refine q_val (v := ?_) (by rfl) ?_ ?_; rotate_left; (· (intro w hC; go_simp; try with_reducible rfl)); (try simp only [Act.put, List.getElem_toArray, List.getElem_cons_succ, List.getElem_cons_zero, List.setIfInBounds_toArray, List.set_cons_zero, List.set_cons_succ]))
          (refine q_val (v := ?_) (by rfl) ?_ ?_; rotate_left; (· (intro w hC; go_simp; try with_reducible rfl)); (try simp only [Act.put, List.getElem_toArray, List.getElem_cons_succ, List.getElem_cons_zero, List.setIfInBounds_toArray, List.set_cons_zero, List.set_cons_succ]))
          (refine q_val (v := ?_) (by rfl) ?_ ?_; rotate_left; (· (intro w hC; go_simp; try with_reducible rfl)); (try simp only [Act.put, List.getElem_toArray, List.getElem_cons_succ, List.getElem_cons_zero, List.setIfInBounds_toArray, List.set_cons_zero, List.set_cons_succ]))
          (refine q_val (v := ?_) (by rfl) ?_ ?_; rotate_left; (· (intro w hC; have q := HC0.out w hC; go_simp; try with_reducible rfl)); (try simp only [Act.put, List.getElem_toArray, List.getElem_cons_succ, List.getElem_cons_zero, List.setIfInBounds_toArray, List.set_cons_zero, List.set_cons_succ]))
          (refine q_val (v := ?_) (by rfl) ?_ ?_; rotate_left; (· (intro w hC; go_simp; try with_reducible rfl)); (try simp only [Act.put, List.getElem_toArray, List.getElem_cons_succ, List.getElem_cons_zero, List.setIfInBounds_toArray, List.set_cons_zero, List.set_cons_succ]))
          (refine q_val (v := ?_) (by rfl) ?_ ?_; rotate_left; (· (intro w hC; have q := HX0.out w hC; go_simp; try with_reducible rfl)); (try simp only [Act.put, List.getElem_toArray, List.getElem_cons_succ, List.getElem_cons_zero, List.setIfInBounds_toArray, List.set_cons_zero, List.set_cons_succ]))
          (refine q_val (v := ?_) (by rfl) ?_ ?_; rotate_left; (· (intro w hC; have q := HE2.out; go_simp; try with_reducible rfl)); (try simp only [Act.put, List.getElem_toArray, List.getElem_cons_succ, List.getElem_cons_zero, List.setIfInBounds_toArray, List.set_cons_zero, List.set_cons_succ]))
          (refine q_val (v := ?_) (by rfl) ?_ ?_; rotate_left; (· (intro w hC; go_simp; try with_reducible rfl)); (try simp only [Act.put, List.getElem_toArray, List.getElem_cons_succ, List.getElem_cons_zero, List.setIfInBounds_toArray, List.set_cons_zero, List.set_cons_succ]))
          (refine q_val (v := ?_) (by rfl) ?_ ?_; rotate_left; (· (intro w hC; go_simp; try with_reducible rfl)); (try simp only [Act.put, List.getElem_toArray, List.getElem_cons_succ, List.getElem_cons_zero, List.setIfInBounds_toArray, List.set_cons_zero, List.set_cons_succ]))
          (refine q_val (v := ?_) (by rfl) ?_ ?_; rotate_left; (· (intro w hC; go_simp; try with_reducible rfl)); (try simp only [Act.put, List.getElem_toArray, List.getElem_cons_succ, List.getElem_cons_zero, List.setIfInBounds_toArray, List.set_cons_zero, List.set_cons_succ]))
          (refine q_val (v := ?_) (by rfl) ?_ ?_; rotate_left; (· (intro w hC; go_simp; try with_reducible rfl)); (try simp only [Act.put, List.getElem_toArray, List.getElem_cons_succ, List.getElem_cons_zero, List.setIfInBounds_toArray, List.set_cons_zero, List.set_cons_succ]))
          (refine q_val (v := ?_) (by rfl) ?_ ?_; rotate_left; (· (intro w hC; go_simp; try with_reducible rfl)); (try simp only [Act.put, List.getElem_toArray, List.getElem_cons_succ, List.getElem_cons_zero, List.setIfInBounds_toArray, List.set_cons_zero, List.set_cons_succ]))
          (refine q_val (v := .agg my) (by rfl) (fun w hC => run_loadRange 31 _ rfl g (k * 8 + 1) rfl my _ (HMY.out w hC) Try.underlying31 rfl HM6.out) ?_; (try simp only [Act.put, List.getElem_toArray, List.getElem_cons_succ, List.getElem_cons_zero, List.setIfInBounds_toArray, List.set_cons_zero, List.set_cons_succ]))
          (refine q_call (v := .int .u64 (y.mac : Nat)) 24 #[.agg my] (by rfl) (fun w hC => by go_simp) (fun w hC => calls_in (HI1.out w) (fun w' hb => hC.next hb)) ?_; (try simp only [Act.put, List.getElem_toArray, List.getElem_cons_succ, List.getElem_cons_zero, List.setIfInBounds_toArray, List.set_cons_zero, List.set_cons_succ]))
          (refine q_val (v := ?_) (by rfl) ?_ ?_; rotate_left; (· (intro w hC; go_simp; try with_reducible rfl)); (try simp only [Act.put, List.getElem_toArray, List.getElem_cons_succ, List.getElem_cons_zero, List.setIfInBounds_toArray, List.set_cons_zero, List.set_cons_succ]))
          (refine q_val (v := .agg mx) (by rfl) (fun w hC => run_loadRange 31 _ rfl bx 1 rfl mx _ (HMX.out w hC) Try.underlying31 rfl HM7.out) ?_; (try simp only [Act.put, List.getElem_toArray, List.getElem_cons_succ, List.getElem_cons_zero, List.setIfInBounds_toArray, List.set_cons_zero, List.set_cons_succ]))
          (refine q_call (v := .int .u64 (x.mac : Nat)) 24 #[.agg mx] (by rfl) (fun w hC => by go_simp) (fun w hC => calls_in (HI2.out w) (fun w' hb => hC.next hb)) ?_; (try simp only [Act.put, List.getElem_toArray, List.getElem_cons_succ, List.getElem_cons_zero, List.setIfInBounds_toArray, List.set_cons_zero, List.set_cons_succ]))
          (refine q_val (v := ?_) (by rfl) ?_ ?_; rotate_left; (· (intro w hC; have q := HE3.out; go_simp; try with_reducible rfl)); (try simp only [Act.put, List.getElem_toArray, List.getElem_cons_succ, List.getElem_cons_zero, List.setIfInBounds_toArray, List.set_cons_zero, List.set_cons_succ]))
          (refine q_val (v := ?_) (by rfl) ?_ ?_; rotate_left; (· (intro w hC; go_simp; try with_reducible rfl)); (try simp only [Act.put, List.getElem_toArray, List.getElem_cons_succ, List.getElem_cons_zero, List.setIfInBounds_toArray, List.set_cons_zero, List.set_cons_succ]))
          (refine q_val (v := ?_) (by rfl) ?_ ?_; rotate_left; (· (intro w hC; go_simp; try with_reducible rfl)); (try simp only [Act.put, List.getElem_toArray, List.getElem_cons_succ, List.getElem_cons_zero, List.setIfInBounds_toArray, List.set_cons_zero, List.set_cons_succ]))
          (refine q_val (v := ?_) (by rfl) ?_ ?_; rotate_left; (· (intro w hC; go_simp; try with_reducible rfl)); (try simp only [Act.put, List.getElem_toArray, List.getElem_cons_succ, List.getElem_cons_zero, List.setIfInBounds_toArray, List.set_cons_zero, List.set_cons_succ]))
          refine wpQuiet_nil ?_
          intro w5 hC5
          have S5 := Lib.hid hC5
          clear hC5
          go_upto_region 14 with fail
          have HBK := Lib.hid (show ∀ w', Below w5.heap.size w5 w' → Blk w' bx (seA x) 83 from fun w' hb => (S5.out.blk' HBX.out).below hb (S5.out.blk' HBX.out).lt)
          have HS1 := Lib.hid (show ∀ w', Below w5.heap.size w5 w' → Src w' seC (.slice (some ⟨g, 0, none⟩) k cap) (l.take k) from fun w' hb => by
            have o := S5.out.own.next hb
            rw [← HN.out] at o
            exact o.head seC_len (by have := KN.out; have := HN.out; omega))
          have HS2 := Lib.hid (show ∀ w', Below w5.heap.size w5 w' → Src w' seC (.slice (if cap = k then some ⟨g, 0, none⟩ else some ⟨g, k * 8, none⟩) (n - k) (cap - k)) (l.drop k) from fun w' hb => by
            have o := S5.out.own.next hb
            rw [← HN.out] at o ⊢
            exact o.tail seC_len (by have := KN.out; have := HN.out; omega) (by have := HCAP.out; have := HN.out; omega))
          have KC := Lib.hid (show k ≤ cap by have := KN.out; have := HCAP.out; omega)
          have K1 := Lib.hid (show (0 : Int) ≤ (k : Int) by omega)
          have K4 := Lib.hid (show (k : Int) ≤ n by have := KN.out; omega)
          have K5 := Lib.hid (show ((k : Int)).toNat = k by omega)
          have K6 := Lib.hid (show n ≤ cap from HCAP.out.1)
          have HLA := Lib.hid (show (l.take k).length ≤ 1000 by rw [List.length_take]; have := HL.out; have := HN.out; omega)
          have HLB := Lib.hid (show (l.take k).length + (l.drop k).length ≤ 1000 by rw [List.length_take, List.length_drop]; have := HL.out; have := HN.out; omega)
          refine wp_region_inv (I := Ins10I g bx n cap k x _ _ _ _ _ _ _ _ _ _ _ _ _ _ _ _ _ _ _ _ _ _ _ _ _ _ _ _ _ _ _ _ _ _ _ _ _ _ _ _ _ _ _ _ _ _ _ _ _ _ _ _ _ _ _ _ _ _ _ _ _ _ _ _ _ _ _ _ _ w5 l) (by kernel_rfl) (by kernel_rfl) ⟨(.slice none 0 0), (.int .i64 0), undef, undef, undef, undef, undef, undef, undef, undef, undef, undef, undef, undef, rfl, ⟨(fun h => Bool.noConfusion h), (fun h => Bool.noConfusion h), (fun h => Bool.noConfusion h), (fun h => Bool.noConfusion h), (fun h => Bool.noConfusion h), (fun h => Bool.noConfusion h), (fun h => Bool.noConfusion h), (fun h => Bool.noConfusion h), (fun h => Bool.noConfusion h)⟩, InsW.start w5⟩ ?_ ?_
          · intro i hi L a w' hI hL haft
            obtain ⟨v4, v5, v74, v75, v76, v77, v78, v79, v80, v81, v82, v83, v84, v85, rfl, hs, hw⟩ := hI
            match i, hi with
            | 0, _ =>
              exact i_val rfl (.slice (some ⟨w'.heap.size, 0, none⟩) 0 0) (w'.alloc (.cells #[] 83)) (by rfl) (by go_simp) ⟨v4, v5, (.slice (some ⟨w'.heap.size, 0, none⟩) 0 0), v75, v76, v77, v78, v79, v80, v81, v82, v83, v84, v85, rfl, { hs with }, hw.make0 hL⟩
            | 1, _ =>
              exact i_val rfl (.slice (some ⟨g, 0, none⟩) n cap) w' (by rfl) (by go_simp) ⟨v4, v5, v74, (.slice (some ⟨g, 0, none⟩) n cap), v76, v77, v78, v79, v80, v81, v82, v83, v84, v85, rfl, { hs with e75 := fun _ => rfl }, hw⟩
            | 2, _ =>
              exact i_val rfl (.int .i64 (k : Nat)) w' (by rfl) (by go_simp) ⟨v4, v5, v74, v75, (.int .i64 (k : Nat)), v77, v78, v79, v80, v81, v82, v83, v84, v85, rfl, { hs with e76 := fun _ => rfl }, hw⟩
            | 3, _ =>
              have e75x := hs.e75 (haft 1 (by decide))
              subst e75x
              have e76x := hs.e76 (haft 2 (by decide))
              subst e76x
              have e := KC.out
              exact i_val rfl (.slice (some ⟨g, 0, none⟩) k cap) w' (by rfl) (by go_simp) ⟨v4, v5, v74, (.slice (some ⟨g, 0, none⟩) n cap), (.int .i64 (k : Nat)), (.slice (some ⟨g, 0, none⟩) k cap), v78, v79, v80, v81, v82, v83, v84, v85, rfl, { hs with e77 := fun _ => rfl }, hw⟩
            | 4, _ =>
              have e77x := hs.e77 (haft 3 (by decide))
              subst e77x
              obtain ⟨u, w2, hrun, hI⟩ := hw.app4 seE (haft 0 (by decide)) hL (HS1.out w' hw.below) HLA.out 70
              exact i_wp rfl (by rfl) (wp_append_lst _ _ 70 rfl u w2 hrun ⟨v4, v5, v74, v75, v76, (.slice (some ⟨g, 0, none⟩) k cap), u, v79, v80, v81, v82, v83, v84, v85, rfl, { hs with }, hI⟩)
            | 5, _ =>
              exact i_val rfl (.agg (seA x)) w' (by rfl) (run_loadVar_of 83 _ rfl bx rfl 83 (seA x) _ (HBK.out w' hw.below) Try.underlying83 rfl seinfo) ⟨v4, v5, v74, v75, v76, v77, v78, (.agg (seA x)), v80, v81, v82, v83, v84, v85, rfl, { hs with e79 := fun _ => rfl }, hw⟩
            | 6, _ =>
              have e79x := hs.e79 (haft 5 (by decide))
              subst e79x
              exact i_val rfl (.slice (some ⟨w'.heap.size, 0, none⟩) 1 1) (w'.alloc (.cells (seA x) 83)) (by rfl) (by go_simp) ⟨v4, v5, v74, v75, v76, v77, v78, (.agg (seA x)), (.slice (some ⟨w'.heap.size, 0, none⟩) 1 1), v81, v82, v83, v84, v85, rfl, { hs with }, hw.make6 seE hL (seA x) rfl⟩
            | 7, _ =>
              obtain ⟨u, w2, hrun, hI⟩ := hw.app7 seE (haft 4 (by decide)) (haft 6 (by decide)) hL HLA.out 70
              exact i_wp rfl (by rfl) (wp_append_lst _ _ 70 rfl u w2 hrun ⟨v4, v5, v74, v75, v76, v77, v78, v79, v80, u, v82, v83, v84, v85, rfl, { hs with }, hI⟩)
            | 8, _ =>
              exact i_val rfl (.slice (some ⟨g, 0, none⟩) n cap) w' (by rfl) (by go_simp) ⟨v4, v5, v74, v75, v76, v77, v78, v79, v80, v81, (.slice (some ⟨g, 0, none⟩) n cap), v83, v84, v85, rfl, { hs with e82 := fun _ => rfl }, hw⟩
            | 9, _ =>
              exact i_val rfl (.int .i64 (k : Nat)) w' (by rfl) (by go_simp) ⟨v4, v5, v74, v75, v76, v77, v78, v79, v80, v81, v82, (.int .i64 (k : Nat)), v84, v85, rfl, { hs with e83 := fun _ => rfl }, hw⟩
            | 10, _ =>
              have e82x := hs.e82 (haft 8 (by decide))
              subst e82x
              have e83x := hs.e83 (haft 9 (by decide))
              subst e83x
              have e1 := K1.out
              have e2 := K4.out
              have e3 := K5.out
              have e4 := K6.out
              exact i_val rfl (.slice (if cap = k then some ⟨g, 0, none⟩ else some ⟨g, k * 8, none⟩) (n - k) (cap - k)) w' (by rfl) (by go_simp) ⟨v4, v5, v74, v75, v76, v77, v78, v79, v80, v81, (.slice (some ⟨g, 0, none⟩) n cap), (.int .i64 (k : Nat)), (.slice (if cap = k then some ⟨g, 0, none⟩ else some ⟨g, k * 8, none⟩) (n - k) (cap - k)), v85, rfl, { hs with e84 := fun _ => rfl }, hw⟩
            | 11, _ =>
              have e84x := hs.e84 (haft 10 (by decide))
              subst e84x
              obtain ⟨u, w2, hrun, hI⟩ := hw.app11 seE (haft 7 (by decide)) hL (HS2.out w' hw.below) HLB.out 70
              exact i_wp rfl (by rfl) (wp_append_lst _ _ 70 rfl u w2 hrun ⟨v4, v5, v74, v75, v76, v77, v78, v79, v80, v81, v82, v83, (.slice (if cap = k then some ⟨g, 0, none⟩ else some ⟨g, k * 8, none⟩) (n - k) (cap - k)), u, rfl, { hs with e4 := fun h => by (have := (hs.e4 h).2; rw [hL] at this; cases this) }, hI⟩)
            | 12, _ =>
              exact i_val rfl v85 w' (by rfl) (by go_simp) ⟨v85, v5, v74, v75, v76, v77, v78, v79, v80, v81, v82, v83, v84, v85, rfl, { hs with e4 := fun _ => ⟨rfl, haft 11 (by decide)⟩ }, hw⟩
            | 13, _ =>
              exact i_val rfl (.int .i64 0) w' (by rfl) (by go_simp) ⟨v4, (.int .i64 0), v74, v75, v76, v77, v78, v79, v80, v81, v82, v83, v84, v85, rfl, { hs with e5 := fun _ => rfl }, hw⟩
            | k + 14, h =>
              exfalso
              have h2 : k + 14 < 14 := h
              omega
          intro L a w3 hI hall
          obtain ⟨v4, v5, v74, v75, v76, v77, v78, v79, v80, v81, v82, v83, v84, v85, rfl, hs, hw⟩ := hI
          obtain ⟨e4a, -⟩ := hs.e4 (hall 12 (by decide))
          have e5a := hs.e5 (hall 13 (by decide))
          subst e4a
          subst e5a
          have O6 := Lib.hid (hw.p11 (hall 11 (by decide)))
          have B6 := Lib.hid hw.below
          clear hs hw hall
          go_wp2_with fail
          go_ret2
          exact ⟨_, ret_own R2.out, by rw [R1.out]; exact O6.out.mono (Nat.le_trans HBASE.out (by rw [← HBX.out]; exact S5.out.below.size)), S5.out.below.trans (B6.out.mono S5.out.below.size)⟩
        · have HE1 := Lib.hid (show decide (y.vid < x.vid) = false from decide_eq_false hv)
          have HE2 := Lib.hid (show ((y.vid : Int) == (x.vid : Int)) = false by simp; omega)
          clear hv hyk hve hlt hj hjn
          go_upto_region 12 with fail
          refine wp_region_quiet (C := Set10 w base (.slice (some ⟨g, 0, none⟩) n cap) l x) (by kernel_rfl) (by kernel_rfl) (hS.out.next (Below.refl _ _).drew) ?_
          (refine q_val (v := ?_) (by rfl) ?_ ?_; rotate_left; (· (intro w hC; go_simp; try with_reducible rfl)); (try simp only [Act.put, List.getElem_toArray, List.getElem_cons_succ, List.getElem_cons_zero, List.setIfInBounds_toArray, List.set_cons_zero, List.set_cons_succ]))
          (refine q_val (v := ?_) (by rfl) ?_ ?_; rotate_left; (· (intro w hC; go_simp; try with_reducible rfl)); (try simp only [Act.put, List.getElem_toArray, List.getElem_cons_succ, List.getElem_cons_zero, List.setIfInBounds_toArray, List.set_cons_zero, List.set_cons_succ]))
          (refine q_val (v := ?_) (by rfl) ?_ ?_; rotate_left; (· (intro w hC; go_simp; try with_reducible rfl)); (try simp only [Act.put, List.getElem_toArray, List.getElem_cons_succ, List.getElem_cons_zero, List.setIfInBounds_toArray, List.set_cons_zero, List.set_cons_succ]))
          (refine q_val (v := ?_) (by rfl) ?_ ?_; rotate_left; (· (intro w hC; go_simp; try with_reducible rfl)); (try simp only [Act.put, List.getElem_toArray, List.getElem_cons_succ, List.getElem_cons_zero, List.setIfInBounds_toArray, List.set_cons_zero, List.set_cons_succ]))
          (refine q_val (v := ?_) (by rfl) ?_ ?_; rotate_left; (· (intro w hC; go_simp; try with_reducible rfl)); (try simp only [Act.put, List.getElem_toArray, List.getElem_cons_succ, List.getElem_cons_zero, List.setIfInBounds_toArray, List.set_cons_zero, List.set_cons_succ]))
          (refine q_val (v := ?_) (by rfl) ?_ ?_; rotate_left; (· (intro w hC; go_simp; try with_reducible rfl)); (try simp only [Act.put, List.getElem_toArray, List.getElem_cons_succ, List.getElem_cons_zero, List.setIfInBounds_toArray, List.set_cons_zero, List.set_cons_succ]))
          (refine q_val (v := ?_) (by rfl) ?_ ?_; rotate_left; (· (intro w hC; go_simp; try with_reducible rfl)); (try simp only [Act.put, List.getElem_toArray, List.getElem_cons_succ, List.getElem_cons_zero, List.setIfInBounds_toArray, List.set_cons_zero, List.set_cons_succ]))
          (refine q_val (v := ?_) (by rfl) ?_ ?_; rotate_left; (· (intro w hC; go_simp; try with_reducible rfl)); (try simp only [Act.put, List.getElem_toArray, List.getElem_cons_succ, List.getElem_cons_zero, List.setIfInBounds_toArray, List.set_cons_zero, List.set_cons_succ]))
          (refine q_val (v := ?_) (by rfl) ?_ ?_; rotate_left; (· (intro w hC; go_simp; try with_reducible rfl)); (try simp only [Act.put, List.getElem_toArray, List.getElem_cons_succ, List.getElem_cons_zero, List.setIfInBounds_toArray, List.set_cons_zero, List.set_cons_succ]))
          (refine q_val (v := ?_) (by rfl) ?_ ?_; rotate_left; (· (intro w hC; have q := HC0.out w hC; go_simp; try with_reducible rfl)); (try simp only [Act.put, List.getElem_toArray, List.getElem_cons_succ, List.getElem_cons_zero, List.setIfInBounds_toArray, List.set_cons_zero, List.set_cons_succ]))
          (refine q_val (v := ?_) (by rfl) ?_ ?_; rotate_left; (· (intro w hC; go_simp; try with_reducible rfl)); (try simp only [Act.put, List.getElem_toArray, List.getElem_cons_succ, List.getElem_cons_zero, List.setIfInBounds_toArray, List.set_cons_zero, List.set_cons_succ]))
          (refine q_val (v := ?_) (by rfl) ?_ ?_; rotate_left; (· (intro w hC; have q := HX0.out w hC; go_simp; try with_reducible rfl)); (try simp only [Act.put, List.getElem_toArray, List.getElem_cons_succ, List.getElem_cons_zero, List.setIfInBounds_toArray, List.set_cons_zero, List.set_cons_succ]))
          (refine q_val (v := ?_) (by rfl) ?_ ?_; rotate_left; (· (intro w hC; have q := HE1.out; go_simp; try with_reducible rfl)); (try simp only [Act.put, List.getElem_toArray, List.getElem_cons_succ, List.getElem_cons_zero, List.setIfInBounds_toArray, List.set_cons_zero, List.set_cons_succ]))
          (refine q_val (v := ?_) (by rfl) ?_ ?_; rotate_left; (· (intro w hC; go_simp; try with_reducible rfl)); (try simp only [Act.put, List.getElem_toArray, List.getElem_cons_succ, List.getElem_cons_zero, List.setIfInBounds_toArray, List.set_cons_zero, List.set_cons_succ]))
          (refine q_val (v := ?_) (by rfl) ?_ ?_; rotate_left; (· (intro w hC; go_simp; try with_reducible rfl)); (try simp only [Act.put, List.getElem_toArray, List.getElem_cons_succ, List.getElem_cons_zero, List.setIfInBounds_toArray, List.set_cons_zero, List.set_cons_succ]))
          (refine q_val (v := ?_) (by rfl) ?_ ?_; rotate_left; (· (intro w hC; go_simp; try with_reducible rfl)); (try simp only [Act.put, List.getElem_toArray, List.getElem_cons_succ, List.getElem_cons_zero, List.setIfInBounds_toArray, List.set_cons_zero, List.set_cons_succ]))
          (refine q_val (v := ?_) (by rfl) ?_ ?_; rotate_left; (· (intro w hC; go_simp; try with_reducible rfl)); (try simp only [Act.put, List.getElem_toArray, List.getElem_cons_succ, List.getElem_cons_zero, List.setIfInBounds_toArray, List.set_cons_zero, List.set_cons_succ]))
          (refine q_val (v := ?_) (by rfl) ?_ ?_; rotate_left; (· (intro w hC; go_simp; try with_reducible rfl)); (try simp only [Act.put, List.getElem_toArray, List.getElem_cons_succ, List.getElem_cons_zero, List.setIfInBounds_toArray, List.set_cons_zero, List.set_cons_succ]))
          (refine q_val (v := ?_) (by rfl) ?_ ?_; rotate_left; (· (intro w hC; have q := HC0.out w hC; go_simp; try with_reducible rfl)); (try simp only [Act.put, List.getElem_toArray, List.getElem_cons_succ, List.getElem_cons_zero, List.setIfInBounds_toArray, List.set_cons_zero, List.set_cons_succ]))
          (refine q_val (v := ?_) (by rfl) ?_ ?_; rotate_left; (· (intro w hC; go_simp; try with_reducible rfl)); (try simp only [Act.put, List.getElem_toArray, List.getElem_cons_succ, List.getElem_cons_zero, List.setIfInBounds_toArray, List.set_cons_zero, List.set_cons_succ]))
          (refine q_val (v := ?_) (by rfl) ?_ ?_; rotate_left; (· (intro w hC; have q := HX0.out w hC; go_simp; try with_reducible rfl)); (try simp only [Act.put, List.getElem_toArray, List.getElem_cons_succ, List.getElem_cons_zero, List.setIfInBounds_toArray, List.set_cons_zero, List.set_cons_succ]))
          (refine q_val (v := ?_) (by rfl) ?_ ?_; rotate_left; (· (intro w hC; have q := HE2.out; go_simp; try with_reducible rfl)); (try simp only [Act.put, List.getElem_toArray, List.getElem_cons_succ, List.getElem_cons_zero, List.setIfInBounds_toArray, List.set_cons_zero, List.set_cons_succ]))
          (refine q_val (v := ?_) (by rfl) ?_ ?_; rotate_left; (· (intro w hC; go_simp; try with_reducible rfl)); (try simp only [Act.put, List.getElem_toArray, List.getElem_cons_succ, List.getElem_cons_zero, List.setIfInBounds_toArray, List.set_cons_zero, List.set_cons_succ]))
          (refine q_skip (by rfl) ?_; (try simp only [Act.put, List.getElem_toArray, List.getElem_cons_succ, List.getElem_cons_zero, List.setIfInBounds_toArray, List.set_cons_zero, List.set_cons_succ]))
          (refine q_skip (by rfl) ?_; (try simp only [Act.put, List.getElem_toArray, List.getElem_cons_succ, List.getElem_cons_zero, List.setIfInBounds_toArray, List.set_cons_zero, List.set_cons_succ]))
          (refine q_skip (by rfl) ?_; (try simp only [Act.put, List.getElem_toArray, List.getElem_cons_succ, List.getElem_cons_zero, List.setIfInBounds_toArray, List.set_cons_zero, List.set_cons_succ]))
          (refine q_skip (by rfl) ?_; (try simp only [Act.put, List.getElem_toArray, List.getElem_cons_succ, List.getElem_cons_zero, List.setIfInBounds_toArray, List.set_cons_zero, List.set_cons_succ]))
          (refine q_skip (by rfl) ?_; (try simp only [Act.put, List.getElem_toArray, List.getElem_cons_succ, List.getElem_cons_zero, List.setIfInBounds_toArray, List.set_cons_zero, List.set_cons_succ]))
          (refine q_skip (by rfl) ?_; (try simp only [Act.put, List.getElem_toArray, List.getElem_cons_succ, List.getElem_cons_zero, List.setIfInBounds_toArray, List.set_cons_zero, List.set_cons_succ]))
          (refine q_skip (by rfl) ?_; (try simp only [Act.put, List.getElem_toArray, List.getElem_cons_succ, List.getElem_cons_zero, List.setIfInBounds_toArray, List.set_cons_zero, List.set_cons_succ]))
          (refine q_skip (by rfl) ?_; (try simp only [Act.put, List.getElem_toArray, List.getElem_cons_succ, List.getElem_cons_zero, List.setIfInBounds_toArray, List.set_cons_zero, List.set_cons_succ]))
          (refine q_skip (by rfl) ?_; (try simp only [Act.put, List.getElem_toArray, List.getElem_cons_succ, List.getElem_cons_zero, List.setIfInBounds_toArray, List.set_cons_zero, List.set_cons_succ]))
          (refine q_skip (by rfl) ?_; (try simp only [Act.put, List.getElem_toArray, List.getElem_cons_succ, List.getElem_cons_zero, List.setIfInBounds_toArray, List.set_cons_zero, List.set_cons_succ]))
          (refine q_val (v := ?_) (by rfl) ?_ ?_; rotate_left; (· (intro w hC; go_simp; try with_reducible rfl)); (try simp only [Act.put, List.getElem_toArray, List.getElem_cons_succ, List.getElem_cons_zero, List.setIfInBounds_toArray, List.set_cons_zero, List.set_cons_succ]))
          (refine q_val (v := ?_) (by rfl) ?_ ?_; rotate_left; (· (intro w hC; go_simp; try with_reducible rfl)); (try simp only [Act.put, List.getElem_toArray, List.getElem_cons_succ, List.getElem_cons_zero, List.setIfInBounds_toArray, List.set_cons_zero, List.set_cons_succ]))
          (refine q_val (v := ?_) (by rfl) ?_ ?_; rotate_left; (· (intro w hC; go_simp; try with_reducible rfl)); (try simp only [Act.put, List.getElem_toArray, List.getElem_cons_succ, List.getElem_cons_zero, List.setIfInBounds_toArray, List.set_cons_zero, List.set_cons_succ]))
          refine wpQuiet_nil ?_
          intro w5 hC5
          have S5 := Lib.hid hC5
          clear hC5
          go_upto_region 14 with fail
          have HBK := Lib.hid (show ∀ w', Below w5.heap.size w5 w' → Blk w' bx (seA x) 83 from fun w' hb => (S5.out.blk' HBX.out).below hb (S5.out.blk' HBX.out).lt)
          have HS1 := Lib.hid (show ∀ w', Below w5.heap.size w5 w' → Src w' seC (.slice (some ⟨g, 0, none⟩) k cap) (l.take k) from fun w' hb => by
            have o := S5.out.own.next hb
            rw [← HN.out] at o
            exact o.head seC_len (by have := KN.out; have := HN.out; omega))
          have HS2 := Lib.hid (show ∀ w', Below w5.heap.size w5 w' → Src w' seC (.slice (if cap = k then some ⟨g, 0, none⟩ else some ⟨g, k * 8, none⟩) (n - k) (cap - k)) (l.drop k) from fun w' hb => by
            have o := S5.out.own.next hb
            rw [← HN.out] at o ⊢
            exact o.tail seC_len (by have := KN.out; have := HN.out; omega) (by have := HCAP.out; have := HN.out; omega))
          have KC := Lib.hid (show k ≤ cap by have := KN.out; have := HCAP.out; omega)
          have K1 := Lib.hid (show (0 : Int) ≤ (k : Int) by omega)
          have K4 := Lib.hid (show (k : Int) ≤ n by have := KN.out; omega)
          have K5 := Lib.hid (show ((k : Int)).toNat = k by omega)
          have K6 := Lib.hid (show n ≤ cap from HCAP.out.1)
          have HLA := Lib.hid (show (l.take k).length ≤ 1000 by rw [List.length_take]; have := HL.out; have := HN.out; omega)
          have HLB := Lib.hid (show (l.take k).length + (l.drop k).length ≤ 1000 by rw [List.length_take, List.length_drop]; have := HL.out; have := HN.out; omega)
          refine wp_region_inv (I := Ins10I g bx n cap k x _ _ _ _ _ _ _ _ _ _ _ _ _ _ _ _ _ _ _ _ _ _ _ _ _ _ _ _ _ _ _ _ _ _ _ _ _ _ _ _ _ _ _ _ _ _ _ _ _ _ _ _ _ _ _ _ _ _ _ _ _ _ _ _ _ _ _ _ _ w5 l) (by kernel_rfl) (by kernel_rfl) ⟨(.slice none 0 0), (.int .i64 0), undef, undef, undef, undef, undef, undef, undef, undef, undef, undef, undef, undef, rfl, ⟨(fun h => Bool.noConfusion h), (fun h => Bool.noConfusion h), (fun h => Bool.noConfusion h), (fun h => Bool.noConfusion h), (fun h => Bool.noConfusion h), (fun h => Bool.noConfusion h), (fun h => Bool.noConfusion h), (fun h => Bool.noConfusion h), (fun h => Bool.noConfusion h)⟩, InsW.start w5⟩ ?_ ?_
          · intro i hi L a w' hI hL haft
            obtain ⟨v4, v5, v74, v75, v76, v77, v78, v79, v80, v81, v82, v83, v84, v85, rfl, hs, hw⟩ := hI
            match i, hi with
            | 0, _ =>
              exact i_val rfl (.slice (some ⟨w'.heap.size, 0, none⟩) 0 0) (w'.alloc (.cells #[] 83)) (by rfl) (by go_simp) ⟨v4, v5, (.slice (some ⟨w'.heap.size, 0, none⟩) 0 0), v75, v76, v77, v78, v79, v80, v81, v82, v83, v84, v85, rfl, { hs with }, hw.make0 hL⟩
            | 1, _ =>
              exact i_val rfl (.slice (some ⟨g, 0, none⟩) n cap) w' (by rfl) (by go_simp) ⟨v4, v5, v74, (.slice (some ⟨g, 0, none⟩) n cap), v76, v77, v78, v79, v80, v81, v82, v83, v84, v85, rfl, { hs with e75 := fun _ => rfl }, hw⟩
            | 2, _ =>
              exact i_val rfl (.int .i64 (k : Nat)) w' (by rfl) (by go_simp) ⟨v4, v5, v74, v75, (.int .i64 (k : Nat)), v77, v78, v79, v80, v81, v82, v83, v84, v85, rfl, { hs with e76 := fun _ => rfl }, hw⟩
            | 3, _ =>
              have e75x := hs.e75 (haft 1 (by decide))
              subst e75x
              have e76x := hs.e76 (haft 2 (by decide))
              subst e76x
              have e := KC.out
              exact i_val rfl (.slice (some ⟨g, 0, none⟩) k cap) w' (by rfl) (by go_simp) ⟨v4, v5, v74, (.slice (some ⟨g, 0, none⟩) n cap), (.int .i64 (k : Nat)), (.slice (some ⟨g, 0, none⟩) k cap), v78, v79, v80, v81, v82, v83, v84, v85, rfl, { hs with e77 := fun _ => rfl }, hw⟩
            | 4, _ =>
              have e77x := hs.e77 (haft 3 (by decide))
              subst e77x
              obtain ⟨u, w2, hrun, hI⟩ := hw.app4 seE (haft 0 (by decide)) hL (HS1.out w' hw.below) HLA.out 70
              exact i_wp rfl (by rfl) (wp_append_lst _ _ 70 rfl u w2 hrun ⟨v4, v5, v74, v75, v76, (.slice (some ⟨g, 0, none⟩) k cap), u, v79, v80, v81, v82, v83, v84, v85, rfl, { hs with }, hI⟩)
            | 5, _ =>
              exact i_val rfl (.agg (seA x)) w' (by rfl) (run_loadVar_of 83 _ rfl bx rfl 83 (seA x) _ (HBK.out w' hw.below) Try.underlying83 rfl seinfo) ⟨v4, v5, v74, v75, v76, v77, v78, (.agg (seA x)), v80, v81, v82, v83, v84, v85, rfl, { hs with e79 := fun _ => rfl }, hw⟩
            | 6, _ =>
              have e79x := hs.e79 (haft 5 (by decide))
              subst e79x
              exact i_val rfl (.slice (some ⟨w'.heap.size, 0, none⟩) 1 1) (w'.alloc (.cells (seA x) 83)) (by rfl) (by go_simp) ⟨v4, v5, v74, v75, v76, v77, v78, (.agg (seA x)), (.slice (some ⟨w'.heap.size, 0, none⟩) 1 1), v81, v82, v83, v84, v85, rfl, { hs with }, hw.make6 seE hL (seA x) rfl⟩
            | 7, _ =>
              obtain ⟨u, w2, hrun, hI⟩ := hw.app7 seE (haft 4 (by decide)) (haft 6 (by decide)) hL HLA.out 70
              exact i_wp rfl (by rfl) (wp_append_lst _ _ 70 rfl u w2 hrun ⟨v4, v5, v74, v75, v76, v77, v78, v79, v80, u, v82, v83, v84, v85, rfl, { hs with }, hI⟩)
            | 8, _ =>
              exact i_val rfl (.slice (some ⟨g, 0, none⟩) n cap) w' (by rfl) (by go_simp) ⟨v4, v5, v74, v75, v76, v77, v78, v79, v80, v81, (.slice (some ⟨g, 0, none⟩) n cap), v83, v84, v85, rfl, { hs with e82 := fun _ => rfl }, hw⟩
            | 9, _ =>
              exact i_val rfl (.int .i64 (k : Nat)) w' (by rfl) (by go_simp) ⟨v4, v5, v74, v75, v76, v77, v78, v79, v80, v81, v82, (.int .i64 (k : Nat)), v84, v85, rfl, { hs with e83 := fun _ => rfl }, hw⟩
            | 10, _ =>
              have e82x := hs.e82 (haft 8 (by decide))
              subst e82x
              have e83x := hs.e83 (haft 9 (by decide))
              subst e83x
              have e1 := K1.out
              have e2 := K4.out
              have e3 := K5.out
              have e4 := K6.out
              exact i_val rfl (.slice (if cap = k then some ⟨g, 0, none⟩ else some ⟨g, k * 8, none⟩) (n - k) (cap - k)) w' (by rfl) (by go_simp) ⟨v4, v5, v74, v75, v76, v77, v78, v79, v80, v81, (.slice (some ⟨g, 0, none⟩) n cap), (.int .i64 (k : Nat)), (.slice (if cap = k then some ⟨g, 0, none⟩ else some ⟨g, k * 8, none⟩) (n - k) (cap - k)), v85, rfl, { hs with e84 := fun _ => rfl }, hw⟩
            | 11, _ =>
              have e84x := hs.e84 (haft 10 (by decide))
              subst e84x
              obtain ⟨u, w2, hrun, hI⟩ := hw.app11 seE (haft 7 (by decide)) hL (HS2.out w' hw.below) HLB.out 70
              exact i_wp rfl (by rfl) (wp_append_lst _ _ 70 rfl u w2 hrun ⟨v4, v5, v74, v75, v76, v77, v78, v79, v80, v81, v82, v83, (.slice (if cap = k then some ⟨g, 0, none⟩ else some ⟨g, k * 8, none⟩) (n - k) (cap - k)), u, rfl, { hs with e4 := fun h => by (have := (hs.e4 h).2; rw [hL] at this; cases this) }, hI⟩)
            | 12, _ =>
              exact i_val rfl v85 w' (by rfl) (by go_simp) ⟨v85, v5, v74, v75, v76, v77, v78, v79, v80, v81, v82, v83, v84, v85, rfl, { hs with e4 := fun _ => ⟨rfl, haft 11 (by decide)⟩ }, hw⟩
            | 13, _ =>
              exact i_val rfl (.int .i64 0) w' (by rfl) (by go_simp) ⟨v4, (.int .i64 0), v74, v75, v76, v77, v78, v79, v80, v81, v82, v83, v84, v85, rfl, { hs with e5 := fun _ => rfl }, hw⟩
            | k + 14, h =>
              exfalso
              have h2 : k + 14 < 14 := h
              omega
          intro L a w3 hI hall
          obtain ⟨v4, v5, v74, v75, v76, v77, v78, v79, v80, v81, v82, v83, v84, v85, rfl, hs, hw⟩ := hI
          obtain ⟨e4a, -⟩ := hs.e4 (hall 12 (by decide))
          have e5a := hs.e5 (hall 13 (by decide))
          subst e4a
          subst e5a
          have O6 := Lib.hid (hw.p11 (hall 11 (by decide)))
          have B6 := Lib.hid hw.below
          clear hs hw hall
          go_wp2_with fail
          go_ret2
          exact ⟨_, ret_own R2.out, by rw [R1.out]; exact O6.out.mono (Nat.le_trans HBASE.out (by rw [← HBX.out]; exact S5.out.below.size)), S5.out.below.trans (B6.out.mono S5.out.below.size)⟩
      · have hjn' : ¬ (k : Int) < n := by omega
        clear hlt hj hjn
        go_upto_region 12 with fail
        refine wp_region_quiet (C := Set10 w base (.slice (some ⟨g, 0, none⟩) n cap) l x) (by kernel_rfl) (by kernel_rfl) (hS.out.next (Below.refl _ _).drew) ?_
        (refine q_val (v := ?_) (by rfl) ?_ ?_; rotate_left; (· (intro w hC; go_simp; try with_reducible rfl)); (try simp only [Act.put, List.getElem_toArray, List.getElem_cons_succ, List.getElem_cons_zero, List.setIfInBounds_toArray, List.set_cons_zero, List.set_cons_succ]))
        (refine q_val (v := ?_) (by rfl) ?_ ?_; rotate_left; (· (intro w hC; go_simp; try with_reducible rfl)); (try simp only [Act.put, List.getElem_toArray, List.getElem_cons_succ, List.getElem_cons_zero, List.setIfInBounds_toArray, List.set_cons_zero, List.set_cons_succ]))
        (refine q_val (v := ?_) (by rfl) ?_ ?_; rotate_left; (· (intro w hC; go_simp; try with_reducible rfl)); (try simp only [Act.put, List.getElem_toArray, List.getElem_cons_succ, List.getElem_cons_zero, List.setIfInBounds_toArray, List.set_cons_zero, List.set_cons_succ]))
        (refine q_val (v := ?_) (by rfl) ?_ ?_; rotate_left; (· (intro w hC; go_simp; try with_reducible rfl)); (try simp only [Act.put, List.getElem_toArray, List.getElem_cons_succ, List.getElem_cons_zero, List.setIfInBounds_toArray, List.set_cons_zero, List.set_cons_succ]))
        (refine q_val (v := ?_) (by rfl) ?_ ?_; rotate_left; (· (intro w hC; go_simp; try with_reducible rfl)); (try simp only [Act.put, List.getElem_toArray, List.getElem_cons_succ, List.getElem_cons_zero, List.setIfInBounds_toArray, List.set_cons_zero, List.set_cons_succ]))
        (refine q_skip (by rfl) ?_; (try simp only [Act.put, List.getElem_toArray, List.getElem_cons_succ, List.getElem_cons_zero, List.setIfInBounds_toArray, List.set_cons_zero, List.set_cons_succ]))
        (refine q_skip (by rfl) ?_; (try simp only [Act.put, List.getElem_toArray, List.getElem_cons_succ, List.getElem_cons_zero, List.setIfInBounds_toArray, List.set_cons_zero, List.set_cons_succ]))
        (refine q_skip (by rfl) ?_; (try simp only [Act.put, List.getElem_toArray, List.getElem_cons_succ, List.getElem_cons_zero, List.setIfInBounds_toArray, List.set_cons_zero, List.set_cons_succ]))
        (refine q_skip (by rfl) ?_; (try simp only [Act.put, List.getElem_toArray, List.getElem_cons_succ, List.getElem_cons_zero, List.setIfInBounds_toArray, List.set_cons_zero, List.set_cons_succ]))
        (refine q_skip (by rfl) ?_; (try simp only [Act.put, List.getElem_toArray, List.getElem_cons_succ, List.getElem_cons_zero, List.setIfInBounds_toArray, List.set_cons_zero, List.set_cons_succ]))
        (refine q_skip (by rfl) ?_; (try simp only [Act.put, List.getElem_toArray, List.getElem_cons_succ, List.getElem_cons_zero, List.setIfInBounds_toArray, List.set_cons_zero, List.set_cons_succ]))
        (refine q_skip (by rfl) ?_; (try simp only [Act.put, List.getElem_toArray, List.getElem_cons_succ, List.getElem_cons_zero, List.setIfInBounds_toArray, List.set_cons_zero, List.set_cons_succ]))
        (refine q_skip (by rfl) ?_; (try simp only [Act.put, List.getElem_toArray, List.getElem_cons_succ, List.getElem_cons_zero, List.setIfInBounds_toArray, List.set_cons_zero, List.set_cons_succ]))
        (refine q_skip (by rfl) ?_; (try simp only [Act.put, List.getElem_toArray, List.getElem_cons_succ, List.getElem_cons_zero, List.setIfInBounds_toArray, List.set_cons_zero, List.set_cons_succ]))
        (refine q_skip (by rfl) ?_; (try simp only [Act.put, List.getElem_toArray, List.getElem_cons_succ, List.getElem_cons_zero, List.setIfInBounds_toArray, List.set_cons_zero, List.set_cons_succ]))
        (refine q_skip (by rfl) ?_; (try simp only [Act.put, List.getElem_toArray, List.getElem_cons_succ, List.getElem_cons_zero, List.setIfInBounds_toArray, List.set_cons_zero, List.set_cons_succ]))
        (refine q_skip (by rfl) ?_; (try simp only [Act.put, List.getElem_toArray, List.getElem_cons_succ, List.getElem_cons_zero, List.setIfInBounds_toArray, List.set_cons_zero, List.set_cons_succ]))
        (refine q_skip (by rfl) ?_; (try simp only [Act.put, List.getElem_toArray, List.getElem_cons_succ, List.getElem_cons_zero, List.setIfInBounds_toArray, List.set_cons_zero, List.set_cons_succ]))
        (refine q_skip (by rfl) ?_; (try simp only [Act.put, List.getElem_toArray, List.getElem_cons_succ, List.getElem_cons_zero, List.setIfInBounds_toArray, List.set_cons_zero, List.set_cons_succ]))
        (refine q_skip (by rfl) ?_; (try simp only [Act.put, List.getElem_toArray, List.getElem_cons_succ, List.getElem_cons_zero, List.setIfInBounds_toArray, List.set_cons_zero, List.set_cons_succ]))
        (refine q_skip (by rfl) ?_; (try simp only [Act.put, List.getElem_toArray, List.getElem_cons_succ, List.getElem_cons_zero, List.setIfInBounds_toArray, List.set_cons_zero, List.set_cons_succ]))
        (refine q_skip (by rfl) ?_; (try simp only [Act.put, List.getElem_toArray, List.getElem_cons_succ, List.getElem_cons_zero, List.setIfInBounds_toArray, List.set_cons_zero, List.set_cons_succ]))
        (refine q_skip (by rfl) ?_; (try simp only [Act.put, List.getElem_toArray, List.getElem_cons_succ, List.getElem_cons_zero, List.setIfInBounds_toArray, List.set_cons_zero, List.set_cons_succ]))
        (refine q_skip (by rfl) ?_; (try simp only [Act.put, List.getElem_toArray, List.getElem_cons_succ, List.getElem_cons_zero, List.setIfInBounds_toArray, List.set_cons_zero, List.set_cons_succ]))
        (refine q_skip (by rfl) ?_; (try simp only [Act.put, List.getElem_toArray, List.getElem_cons_succ, List.getElem_cons_zero, List.setIfInBounds_toArray, List.set_cons_zero, List.set_cons_succ]))
        (refine q_skip (by rfl) ?_; (try simp only [Act.put, List.getElem_toArray, List.getElem_cons_succ, List.getElem_cons_zero, List.setIfInBounds_toArray, List.set_cons_zero, List.set_cons_succ]))
        (refine q_skip (by rfl) ?_; (try simp only [Act.put, List.getElem_toArray, List.getElem_cons_succ, List.getElem_cons_zero, List.setIfInBounds_toArray, List.set_cons_zero, List.set_cons_succ]))
        (refine q_skip (by rfl) ?_; (try simp only [Act.put, List.getElem_toArray, List.getElem_cons_succ, List.getElem_cons_zero, List.setIfInBounds_toArray, List.set_cons_zero, List.set_cons_succ]))
        (refine q_skip (by rfl) ?_; (try simp only [Act.put, List.getElem_toArray, List.getElem_cons_succ, List.getElem_cons_zero, List.setIfInBounds_toArray, List.set_cons_zero, List.set_cons_succ]))
        (refine q_skip (by rfl) ?_; (try simp only [Act.put, List.getElem_toArray, List.getElem_cons_succ, List.getElem_cons_zero, List.setIfInBounds_toArray, List.set_cons_zero, List.set_cons_succ]))
        (refine q_skip (by rfl) ?_; (try simp only [Act.put, List.getElem_toArray, List.getElem_cons_succ, List.getElem_cons_zero, List.setIfInBounds_toArray, List.set_cons_zero, List.set_cons_succ]))
        (refine q_skip (by rfl) ?_; (try simp only [Act.put, List.getElem_toArray, List.getElem_cons_succ, List.getElem_cons_zero, List.setIfInBounds_toArray, List.set_cons_zero, List.set_cons_succ]))
        (refine q_skip (by rfl) ?_; (try simp only [Act.put, List.getElem_toArray, List.getElem_cons_succ, List.getElem_cons_zero, List.setIfInBounds_toArray, List.set_cons_zero, List.set_cons_succ]))
        (refine q_skip (by rfl) ?_; (try simp only [Act.put, List.getElem_toArray, List.getElem_cons_succ, List.getElem_cons_zero, List.setIfInBounds_toArray, List.set_cons_zero, List.set_cons_succ]))
        (refine q_skip (by rfl) ?_; (try simp only [Act.put, List.getElem_toArray, List.getElem_cons_succ, List.getElem_cons_zero, List.setIfInBounds_toArray, List.set_cons_zero, List.set_cons_succ]))
        (refine q_val (v := ?_) (by rfl) ?_ ?_; rotate_left; (· (intro w hC; go_simp; try with_reducible rfl)); (try simp only [Act.put, List.getElem_toArray, List.getElem_cons_succ, List.getElem_cons_zero, List.setIfInBounds_toArray, List.set_cons_zero, List.set_cons_succ]))
        refine wpQuiet_nil ?_
        intro w5 hC5
        have S5 := Lib.hid hC5
        clear hC5
        go_upto_region 14 with fail
        have HBK := Lib.hid (show ∀ w', Below w5.heap.size w5 w' → Blk w' bx (seA x) 83 from fun w' hb => (S5.out.blk' HBX.out).below hb (S5.out.blk' HBX.out).lt)
        have HS1 := Lib.hid (show ∀ w', Below w5.heap.size w5 w' → Src w' seC (.slice (some ⟨g, 0, none⟩) k cap) (l.take k) from fun w' hb => by
          have o := S5.out.own.next hb
          rw [← HN.out] at o
          exact o.head seC_len (by have := KN.out; have := HN.out; omega))
        have HS2 := Lib.hid (show ∀ w', Below w5.heap.size w5 w' → Src w' seC (.slice (if cap = k then some ⟨g, 0, none⟩ else some ⟨g, k * 8, none⟩) (n - k) (cap - k)) (l.drop k) from fun w' hb => by
          have o := S5.out.own.next hb
          rw [← HN.out] at o ⊢
          exact o.tail seC_len (by have := KN.out; have := HN.out; omega) (by have := HCAP.out; have := HN.out; omega))
        have KC := Lib.hid (show k ≤ cap by have := KN.out; have := HCAP.out; omega)
        have K1 := Lib.hid (show (0 : Int) ≤ (k : Int) by omega)
        have K4 := Lib.hid (show (k : Int) ≤ n by have := KN.out; omega)
        have K5 := Lib.hid (show ((k : Int)).toNat = k by omega)
        have K6 := Lib.hid (show n ≤ cap from HCAP.out.1)
        have HLA := Lib.hid (show (l.take k).length ≤ 1000 by rw [List.length_take]; have := HL.out; have := HN.out; omega)
        have HLB := Lib.hid (show (l.take k).length + (l.drop k).length ≤ 1000 by rw [List.length_take, List.length_drop]; have := HL.out; have := HN.out; omega)
        refine wp_region_inv (I := Ins10I g bx n cap k x _ _ _ _ _ _ _ _ _ _ _ _ _ _ _ _ _ _ _ _ _ _ _ _ _ _ _ _ _ _ _ _ _ _ _ _ _ _ _ _ _ _ _ _ _ _ _ _ _ _ _ _ _ _ _ _ _ _ _ _ _ _ _ _ _ _ _ _ _ w5 l) (by kernel_rfl) (by kernel_rfl) ⟨(.slice none 0 0), (.int .i64 0), undef, undef, undef, undef, undef, undef, undef, undef, undef, undef, undef, undef, rfl, ⟨(fun h => Bool.noConfusion h), (fun h => Bool.noConfusion h), (fun h => Bool.noConfusion h), (fun h => Bool.noConfusion h), (fun h => Bool.noConfusion h), (fun h => Bool.noConfusion h), (fun h => Bool.noConfusion h), (fun h => Bool.noConfusion h), (fun h => Bool.noConfusion h)⟩, InsW.start w5⟩ ?_ ?_
        · intro i hi L a w' hI hL haft
          obtain ⟨v4, v5, v74, v75, v76, v77, v78, v79, v80, v81, v82, v83, v84, v85, rfl, hs, hw⟩ := hI
          match i, hi with
          | 0, _ =>
            exact i_val rfl (.slice (some ⟨w'.heap.size, 0, none⟩) 0 0) (w'.alloc (.cells #[] 83)) (by rfl) (by go_simp) ⟨v4, v5, (.slice (some ⟨w'.heap.size, 0, none⟩) 0 0), v75, v76, v77, v78, v79, v80, v81, v82, v83, v84, v85, rfl, { hs with }, hw.make0 hL⟩
          | 1, _ =>
            exact i_val rfl (.slice (some ⟨g, 0, none⟩) n cap) w' (by rfl) (by go_simp) ⟨v4, v5, v74, (.slice (some ⟨g, 0, none⟩) n cap), v76, v77, v78, v79, v80, v81, v82, v83, v84, v85, rfl, { hs with e75 := fun _ => rfl }, hw⟩
          | 2, _ =>
            exact i_val rfl (.int .i64 (k : Nat)) w' (by rfl) (by go_simp) ⟨v4, v5, v74, v75, (.int .i64 (k : Nat)), v77, v78, v79, v80, v81, v82, v83, v84, v85, rfl, { hs with e76 := fun _ => rfl }, hw⟩
          | 3, _ =>
            have e75x := hs.e75 (haft 1 (by decide))
            subst e75x
            have e76x := hs.e76 (haft 2 (by decide))
            subst e76x
            have e := KC.out
            exact i_val rfl (.slice (some ⟨g, 0, none⟩) k cap) w' (by rfl) (by go_simp) ⟨v4, v5, v74, (.slice (some ⟨g, 0, none⟩) n cap), (.int .i64 (k : Nat)), (.slice (some ⟨g, 0, none⟩) k cap), v78, v79, v80, v81, v82, v83, v84, v85, rfl, { hs with e77 := fun _ => rfl }, hw⟩
          | 4, _ =>
            have e77x := hs.e77 (haft 3 (by decide))
            subst e77x
            obtain ⟨u, w2, hrun, hI⟩ := hw.app4 seE (haft 0 (by decide)) hL (HS1.out w' hw.below) HLA.out 70
            exact i_wp rfl (by rfl) (wp_append_lst _ _ 70 rfl u w2 hrun ⟨v4, v5, v74, v75, v76, (.slice (some ⟨g, 0, none⟩) k cap), u, v79, v80, v81, v82, v83, v84, v85, rfl, { hs with }, hI⟩)
          | 5, _ =>
            exact i_val rfl (.agg (seA x)) w' (by rfl) (run_loadVar_of 83 _ rfl bx rfl 83 (seA x) _ (HBK.out w' hw.below) Try.underlying83 rfl seinfo) ⟨v4, v5, v74, v75, v76, v77, v78, (.agg (seA x)), v80, v81, v82, v83, v84, v85, rfl, { hs with e79 := fun _ => rfl }, hw⟩
          | 6, _ =>
            have e79x := hs.e79 (haft 5 (by decide))
            subst e79x
            exact i_val rfl (.slice (some ⟨w'.heap.size, 0, none⟩) 1 1) (w'.alloc (.cells (seA x) 83)) (by rfl) (by go_simp) ⟨v4, v5, v74, v75, v76, v77, v78, (.agg (seA x)), (.slice (some ⟨w'.heap.size, 0, none⟩) 1 1), v81, v82, v83, v84, v85, rfl, { hs with }, hw.make6 seE hL (seA x) rfl⟩
          | 7, _ =>
            obtain ⟨u, w2, hrun, hI⟩ := hw.app7 seE (haft 4 (by decide)) (haft 6 (by decide)) hL HLA.out 70
            exact i_wp rfl (by rfl) (wp_append_lst _ _ 70 rfl u w2 hrun ⟨v4, v5, v74, v75, v76, v77, v78, v79, v80, u, v82, v83, v84, v85, rfl, { hs with }, hI⟩)
          | 8, _ =>
            exact i_val rfl (.slice (some ⟨g, 0, none⟩) n cap) w' (by rfl) (by go_simp) ⟨v4, v5, v74, v75, v76, v77, v78, v79, v80, v81, (.slice (some ⟨g, 0, none⟩) n cap), v83, v84, v85, rfl, { hs with e82 := fun _ => rfl }, hw⟩
          | 9, _ =>
            exact i_val rfl (.int .i64 (k : Nat)) w' (by rfl) (by go_simp) ⟨v4, v5, v74, v75, v76, v77, v78, v79, v80, v81, v82, (.int .i64 (k : Nat)), v84, v85, rfl, { hs with e83 := fun _ => rfl }, hw⟩
          | 10, _ =>
            have e82x := hs.e82 (haft 8 (by decide))
            subst e82x
            have e83x := hs.e83 (haft 9 (by decide))
            subst e83x
            have e1 := K1.out
            have e2 := K4.out
            have e3 := K5.out
            have e4 := K6.out
            exact i_val rfl (.slice (if cap = k then some ⟨g, 0, none⟩ else some ⟨g, k * 8, none⟩) (n - k) (cap - k)) w' (by rfl) (by go_simp) ⟨v4, v5, v74, v75, v76, v77, v78, v79, v80, v81, (.slice (some ⟨g, 0, none⟩) n cap), (.int .i64 (k : Nat)), (.slice (if cap = k then some ⟨g, 0, none⟩ else some ⟨g, k * 8, none⟩) (n - k) (cap - k)), v85, rfl, { hs with e84 := fun _ => rfl }, hw⟩
          | 11, _ =>
            have e84x := hs.e84 (haft 10 (by decide))
            subst e84x
            obtain ⟨u, w2, hrun, hI⟩ := hw.app11 seE (haft 7 (by decide)) hL (HS2.out w' hw.below) HLB.out 70
            exact i_wp rfl (by rfl) (wp_append_lst _ _ 70 rfl u w2 hrun ⟨v4, v5, v74, v75, v76, v77, v78, v79, v80, v81, v82, v83, (.slice (if cap = k then some ⟨g, 0, none⟩ else some ⟨g, k * 8, none⟩) (n - k) (cap - k)), u, rfl, { hs with e4 := fun h => by (have := (hs.e4 h).2; rw [hL] at this; cases this) }, hI⟩)
          | 12, _ =>
            exact i_val rfl v85 w' (by rfl) (by go_simp) ⟨v85, v5, v74, v75, v76, v77, v78, v79, v80, v81, v82, v83, v84, v85, rfl, { hs with e4 := fun _ => ⟨rfl, haft 11 (by decide)⟩ }, hw⟩
          | 13, _ =>
            exact i_val rfl (.int .i64 0) w' (by rfl) (by go_simp) ⟨v4, (.int .i64 0), v74, v75, v76, v77, v78, v79, v80, v81, v82, v83, v84, v85, rfl, { hs with e5 := fun _ => rfl }, hw⟩
          | k + 14, h =>
            exfalso
            have h2 : k + 14 < 14 := h
            omega
        intro L a w3 hI hall
        obtain ⟨v4, v5, v74, v75, v76, v77, v78, v79, v80, v81, v82, v83, v84, v85, rfl, hs, hw⟩ := hI
        obtain ⟨e4a, -⟩ := hs.e4 (hall 12 (by decide))
        have e5a := hs.e5 (hall 13 (by decide))
        subst e4a
        subst e5a
        have O6 := Lib.hid (hw.p11 (hall 11 (by decide)))
        have B6 := Lib.hid hw.below
        clear hs hw hall
        go_wp2_with fail
        go_ret2
        exact ⟨_, ret_own R2.out, by rw [R1.out]; exact O6.out.mono (Nat.le_trans HBASE.out (by rw [← HBX.out]; exact S5.out.below.size)), S5.out.below.trans (B6.out.mono S5.out.below.size)⟩
end Go.Proofs.Ytilklfmcdgggfaa
