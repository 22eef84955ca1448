/- The document's own without, of layer 9. The document's own put, of layer 9. The document's own Tick, of layer 9. The document's own Flush, of layer 9. The document's own New, of layer 9. The document's own Put, of layer 9. The last statement of the document's own Learn, of layer 9: whatever the order of its operations. The document's own Learn, of layer 9. -/
import Derived.Test.YtilklfmcdgggfaaF9
import Derived.Deep.RegionHeld3
import Derived.IntWalk
import Derived.Test.YtilklfmcdgggfaaInv
import Derived.Deep.DeepCutAuto
section
namespace Go.Proofs.Ytilklfmcdgggfaa
open Go.RowKit
set_option linter.unusedSimpArgs false
set_option linter.unusedVariables false

set_option maxRecDepth 100000 in
set_option maxHeartbeats 4000000 in
theorem rwithout9 (base g cap k : Nat) (l : List En) (w : World) (h : Own w base 38 9 enC (.slice (some ⟨g, 0, none⟩) l.length cap) l) (hcap : l.length ≤ cap ∧ cap ≤ maxLen) (hl : l.length ≤ 200) (hkl : k < l.length) :
    Calls Try.prog 46 #[.slice (some ⟨g, 0, none⟩) l.length cap, .int .i64 (k : Nat)] w fun e w' => ∃ v', e = .returned v' ∧ Own w' w.heap.size 38 9 enC v' (l.eraseIdx k) ∧ Below w.heap.size w w' := by
  have R1 := Lib.hid (show l.eraseIdx k = l.eraseIdx k from rfl)
  obtain ⟨i, hi, hz, hsz, hby⟩ := info_parts enInfo
  have HZ := Lib.hid hz
  have HS := Lib.hid hsz
  have HBY := Lib.hid hby
  have HI := Lib.hid hi
  obtain ⟨n, hn⟩ : ∃ n, l.length = n := ⟨_, rfl⟩
  rw [hn] at h hkl hcap hl ⊢
  have H := Lib.hid h
  have HN := Lib.hid hn
  have hkn : (k : Int) < n := by omega
  have hnc : (n : Int) ≤ cap := by omega
  have hcm : (cap : Int) ≤ 9223372036854775807 := by unfold maxLen at hcap; omega
  have HCAP := Lib.hid hcap
  have HL := Lib.hid hl
  have KN := Lib.hid hkl
  clear hz hsz hby hi h hn hcap hkl hl
  go_enter Try.func46, Try.ntmps46
  go_upto_region 1 with fail
  have KC := Lib.hid (show k ≤ cap by omega)
  have KW := Lib.hid (show IntKind.i64.wrap ((k : Int) + 1) = (k : Int) + 1 from IntWalk.i64_in _ (by omega))
  have K1 := Lib.hid (show (0 : Int) ≤ (k : Int) + 1 by omega)
  have K2 := Lib.hid (show (k : Int) + 1 ≤ n by omega)
  have K3 := Lib.hid (show ((k : Int) + 1).toNat = k + 1 by omega)
  clear hkn hnc hcm
  refine wp_region_held_drew (S := fun _ => True) (by kernel_rfl) trivial (fun hHeld => ?_)
  clear hHeld
  (refine wpAnyH_take (i := 1) (v := ?_) rfl (by kernel_rfl) (by kernel_rfl) (by kernel_rfl) (fun _ _ _ h => h) (Or.inl ⟨by rfl, ?_⟩) trivial ?_; rotate_left; (· (intro w hSw; go_simp; try with_reducible rfl)); (try simp only [Act.put, List.getElem_toArray, List.getElem_cons_succ, List.getElem_cons_zero, List.setIfInBounds_toArray, List.set_cons_zero, List.set_cons_succ]))
  (refine wpAnyH_take (i := 2) (v := ?_) rfl (by kernel_rfl) (by kernel_rfl) (by kernel_rfl) (fun _ _ _ h => h) (Or.inl ⟨by rfl, ?_⟩) trivial ?_; rotate_left; (· (intro w hSw; go_simp; try with_reducible rfl)); (try simp only [Act.put, List.getElem_toArray, List.getElem_cons_succ, List.getElem_cons_zero, List.setIfInBounds_toArray, List.set_cons_zero, List.set_cons_succ]))
  (refine wpAnyH_take (i := 3) (v := ?_) rfl (by kernel_rfl) (by kernel_rfl) (by kernel_rfl) (fun _ _ _ h => h) (Or.inl ⟨by rfl, ?_⟩) trivial ?_; rotate_left; (· (intro w hSw; have e := KC.out; go_simp; try with_reducible rfl)); (try simp only [Act.put, List.getElem_toArray, List.getElem_cons_succ, List.getElem_cons_zero, List.setIfInBounds_toArray, List.set_cons_zero, List.set_cons_succ]))
  (refine wpAnyH_take (i := 5) (v := ?_) rfl (by kernel_rfl) (by kernel_rfl) (by kernel_rfl) (fun _ _ _ h => h) (Or.inl ⟨by rfl, ?_⟩) trivial ?_; rotate_left; (· (intro w hSw; go_simp; try with_reducible rfl)); (try simp only [Act.put, List.getElem_toArray, List.getElem_cons_succ, List.getElem_cons_zero, List.setIfInBounds_toArray, List.set_cons_zero, List.set_cons_succ]))
  (refine wpAnyH_take (i := 6) (v := ?_) rfl (by kernel_rfl) (by kernel_rfl) (by kernel_rfl) (fun _ _ _ h => h) (Or.inl ⟨by rfl, ?_⟩) trivial ?_; rotate_left; (· (intro w hSw; go_simp; try with_reducible rfl)); (try simp only [Act.put, List.getElem_toArray, List.getElem_cons_succ, List.getElem_cons_zero, List.setIfInBounds_toArray, List.set_cons_zero, List.set_cons_succ]))
  (refine wpAnyH_take (i := 7) (v := ?_) rfl (by kernel_rfl) (by kernel_rfl) (by kernel_rfl) (fun _ _ _ h => h) (Or.inl ⟨by rfl, ?_⟩) trivial ?_; rotate_left; (· (intro w hSw; have e := KW.out; go_simp; try with_reducible rfl)); (try simp only [Act.put, List.getElem_toArray, List.getElem_cons_succ, List.getElem_cons_zero, List.setIfInBounds_toArray, List.set_cons_zero, List.set_cons_succ]))
  (refine wpAnyH_take (i := 8) (v := ?_) rfl (by kernel_rfl) (by kernel_rfl) (by kernel_rfl) (fun _ _ _ h => h) (Or.inl ⟨by rfl, ?_⟩) trivial ?_; rotate_left; (· (intro w hSw; have e1 := K1.out; have e2 := K2.out; have e3 := K3.out; go_simp; try with_reducible rfl)); (try simp only [Act.put, List.getElem_toArray, List.getElem_cons_succ, List.getElem_cons_zero, List.setIfInBounds_toArray, List.set_cons_zero, List.set_cons_succ]))
  refine wpAnyH_ready (rs := [0]) (by kernel_rfl) (by simp) ?_
  refine AllReadyH.cons rfl (fun K hK => ?_) AllReadyH.nil
  go_simp
  refine hK.out _ _ trivial (fun hHeld => ?_)
  clear hK K hHeld
  (try simp only [Act.put, List.getElem_toArray, List.getElem_cons_succ, List.getElem_cons_zero, List.setIfInBounds_toArray, List.set_cons_zero, List.set_cons_succ])
  have O1 := Lib.hid (show Own (w.alloc (Obj.cells #[] 38)).drew w.heap.size 38 9 enC (.slice (some ⟨w.heap.size, 0, none⟩) 0 0) [] from (Own.made w (Nat.le_refl _) enC).drew)
  have H1 := Lib.hid (show Own (w.alloc (Obj.cells #[] 38)).drew base 38 9 enC (.slice (some ⟨g, 0, none⟩) l.length cap) l by have := (H.out.alloc (.cells #[] 38)).drew; rw [← HN.out] at this; exact this)
  have B1 := Lib.hid (show Below w.heap.size w (w.alloc (Obj.cells #[] 38)).drew from ((Below.refl _ _).alloc (Nat.le_refl _) _).drew)
  have z1 : w.heap.size ≤ (w.alloc (Obj.cells #[] 38)).drew.heap.size := B1.out.size
  have gl := Lib.hid (H.out.lt g rfl).2
  generalize (w.alloc (Obj.cells #[] 38)).drew = w1 at *
  obtain ⟨v2, w2, hrun, o2, hg2, hv2⟩ := O1.out.app (P := Try.prog) (t := 26) (ty := 26) (H1.out.head (k := k) (c := cap) enC_len (by have := KN.out; have := HN.out; omega)) Try.underlying26 HI.out HZ.out HS.out HBY.out rfl (by omega) enC_len enC_one
    (by unfold maxLen; rw [List.length_take]; have := KN.out; have := HL.out; simp; omega) (by rw [List.length_take]; have := KN.out; have := HL.out; simp; omega) z1
  refine wpAnyH_ready (rs := [4]) (by kernel_rfl) (by simp) ?_
  refine AllReadyH.cons rfl (fun K hK => ?_) AllReadyH.nil
  rw [if_pos (by rfl)]
  refine wp_append_lst _ _ 26 rfl v2 w2 hrun ?_
  refine hK.out _ _ trivial (fun hHeld => ?_)
  clear hK K hHeld hrun
  (try simp only [Act.put, List.getElem_toArray, List.getElem_cons_succ, List.getElem_cons_zero, List.setIfInBounds_toArray, List.set_cons_zero, List.set_cons_succ])
  have H2 := Lib.hid (H1.out.kept hg2 (.inr (fun q => by have := gl.out; simp [Value.ownBlock] at q; omega)))
  have O2 := Lib.hid o2
  have b2 := B1.out.trans (grown_below hg2 (fun i hi => by simp [Value.ownBlock] at hi; omega) z1)
  have B2 := Lib.hid b2
  have z2 := b2.size
  clear b2 o2 hv2 hg2 H1 O1 B1 z1
  obtain ⟨v3, w3, hrun, o3, hg3, hv3⟩ := O2.out.app (P := Try.prog) (t := 26) (ty := 26) (H2.out.tail (k := k + 1) (c := cap - (k + 1)) enC_len (by have := KN.out; have := HN.out; omega) (by have := HCAP.out; have := HN.out; omega)) Try.underlying26 HI.out HZ.out HS.out HBY.out rfl (by omega) enC_len enC_one
    (by unfold maxLen; have := HN.out; have := HL.out; simp; omega) (by have := HN.out; have := HL.out; simp; omega) z2
  rw [HN.out] at hrun
  refine wpAnyH_ready (rs := [9]) (by kernel_rfl) (by simp) ?_
  refine AllReadyH.cons rfl (fun K hK => ?_) AllReadyH.nil
  rw [if_pos (by rfl)]
  refine wp_append_lst _ _ 26 rfl v3 w3 hrun ?_
  refine hK.out _ _ trivial (fun hHeld => ?_)
  clear hK K hHeld hrun
  (try simp only [Act.put, List.getElem_toArray, List.getElem_cons_succ, List.getElem_cons_zero, List.setIfInBounds_toArray, List.set_cons_zero, List.set_cons_succ])
  have O3 := Lib.hid o3
  have b3 := B2.out.trans (grown_below hg3 (fun i hi => (O2.out.lt i hi).1) z2)
  have B3 := Lib.hid b3
  clear b3 o3 hv3 hg3 H2 O2 B2 z2
  (refine wpAnyH_take (i := 10) (v := ?_) rfl (by kernel_rfl) (by kernel_rfl) (by kernel_rfl) (fun _ _ _ h => h) (Or.inl ⟨by rfl, ?_⟩) trivial ?_; rotate_left; (· (intro w hSw; go_simp; try with_reducible rfl)); (try simp only [Act.put, List.getElem_toArray, List.getElem_cons_succ, List.getElem_cons_zero, List.setIfInBounds_toArray, List.set_cons_zero, List.set_cons_succ]))
  refine wpAnyH_done (by kernel_rfl) ?_ _
  generalize (if cap = k + 1 then _ else _ : Option Addr) = az
  go_wp2_with fail
  go_ret
  exact ⟨v3, rfl, by have := O3.out; rw [List.nil_append, ← List.eraseIdx_eq_take_drop_succ] at this; exact this, B3.out⟩
end Go.Proofs.Ytilklfmcdgggfaa
end
section
namespace Go.Proofs.Ytilklfmcdgggfaa
open Go.RowKit
attribute [local irreducible] wpQuiet
set_option linter.unusedSimpArgs false
set_option linter.unusedVariables false

/-- With an entry in its place. -/
def putEn (l : List En) (x : En) : List En := layK enK (cutK enK (enK x) l) x

/-- What put has ahead of its own: three blocks, the list. -/
structure P9 (w0 : World) (bf be bt : Nat) (mo li : Int) (SV : Value) (x : En) (l : List En) (w : World) : Prop where
  kn : Kn w0 [(bt, #[.int .i64 0, .int .i64 0, .slice none 0 0], 28), (be, enA x, 38), (bf, #[.int .i64 mo, .int .i64 li, SV], 28)] w
  own : Own w 0 38 9 enC SV l
theorem P9.next {w0 w w' : World} {bf be bt : Nat} {mo li : Int} {SV : Value} {x : En} {l : List En} (h : P9 w0 bf be bt mo li SV x l w) (hb : Below w.heap.size w w') : P9 w0 bf be bt mo li SV x l w' := ⟨h.kn.next hb, h.own.next hb⟩
theorem P9.drew {w0 w : World} {bf be bt : Nat} {mo li : Int} {SV : Value} {x : En} {l : List En} (h : P9 w0 bf be bt mo li SV x l w) : P9 w0 bf be bt mo li SV x l w.drew := ⟨h.kn.drew, h.own.drew⟩

/-- A region that ends in a store of one cell, behind all else. -/
structure PW9 (L : Nat → Bool) (I : World → Prop) (p : Addr) (v : Value) (w : World) : Prop where
  n : L 15 = false → I w
  y : L 15 = true → ∃ W, I W ∧ w = W.setCell p v
  ord : L 15 = true → ∀ i, i < 15 → L i = true
theorem PW9.no {L : Nat → Bool} {I : World → Prop} {p : Addr} {v : Value} {w : World} (h : PW9 L I p v w) (i : Nat) (hi : i < 15) (hl : L i = false) : L 15 = false := by
  cases c : L 15 with
  | false => rfl
  | true => have := h.ord c i hi; rw [hl] at this; cases this
theorem PW9.step {L : Nat → Bool} {I J : World → Prop} {p : Addr} {v v2 : Value} {w w2 : World} (h : PW9 L I p v w) (i : Nat) (hi : i < 15) (hl : L i = false) (hj : J w2) : PW9 (upd L i) J p v2 w2 := by
  have c := h.no i hi hl
  have e : upd L i 15 = false := by unfold upd; rw [if_neg (by omega)]; exact c
  exact ⟨fun _ => hj, fun q => (by rw [e] at q; cases q), fun q => (by rw [e] at q; cases q)⟩
theorem PW9.last {L : Nat → Bool} {I J : World → Prop} {p : Addr} {v : Value} {w : World} (h : PW9 L I p v w) (hl : L 15 = false) (hall : ∀ i, i < 15 → L i = true) (hj : I w → J w) : PW9 (upd L 15) J p v (w.setCell p v) := by
  have e : upd L 15 15 = true := by unfold upd; rw [if_pos rfl]
  refine ⟨fun q => (by rw [e] at q; cases q), fun _ => ⟨w, hj (h.n hl), rfl⟩, fun _ i hi => ?_⟩
  unfold upd
  rw [if_neg (by omega)]
  exact hall i hi

theorem fd_one {w : World} {base : Nat} {v : Value} {l : List En} (mo li : Int) (h : Own w base 38 9 enC v l) : (#[.int .i64 mo, .int .i64 li, v] : Array Value).all (·.oneCell') = true := by
  rcases h.cases with ⟨rfl, -⟩ | ⟨g, cap, rfl, -⟩ <;> simp [Value.oneCell']
theorem Own.setRow {α : Type} {w : World} {base e size g : Nat} {enc : α → List Value} {v : Value} {l : List α} (h : Own w base e size enc v l) (hg : v.ownBlock ≠ some g) (n : Array Value) : Own (w.setRow g n) base e size enc v l := by
  refine ⟨h.1, ?_⟩
  rcases h.2 with hn | ⟨q, cap, cur, rfl, h2, h3, h4⟩
  · exact .inl hn
  · exact .inr ⟨q, cap, cur, rfl, h2, (setRow_other w g q n (fun e => hg (by rw [← e]; rfl))).trans h3, h4⟩
/-- The slots, while the region runs. -/
structure Put9S (g bf be n cap k : Nat) (x : En) (f0 f1 f4 f5 f7 f8 f9 f10 f11 f12 f13 f14 f15 f16 f17 f18 f19 f20 f21 f22 f23 f24 f25 f26 f27 f28 f29 f30 f31 f32 f33 f34 f35 : Value) (L : Nat → Bool) (v36 v37 v38 v39 v40 v41 v42 v43 v44 v45 v46 v47 v48 v49 v50 : Value) : Prop where
  e37 : L 1 = true → v37 = .pointer (some ⟨bf, 2, none⟩)
  e38 : L 2 = true → v38 = .slice (some ⟨g, 0, none⟩) n cap
  e39 : L 3 = true → v39 = .int .i64 (k : Nat)
  e40 : L 4 = true → v40 = .slice (some ⟨g, 0, none⟩) k cap
  e42 : L 6 = true → v42 = .agg (enA x)
  e45 : L 9 = true → v45 = .pointer (some ⟨bf, 2, none⟩)
  e46 : L 10 = true → v46 = .slice (some ⟨g, 0, none⟩) n cap
  e47 : L 11 = true → v47 = .int .i64 (k : Nat)
  e48 : L 12 = true → v48 = .slice (if cap = k then some ⟨g, 0, none⟩ else some ⟨g, k * 9, none⟩) (n - k) (cap - k)
  e50 : L 14 = true → v50 = .pointer (some ⟨bf, 2, none⟩)
abbrev Put9F (g bf be n cap k : Nat) (x : En) (f0 f1 f4 f5 f7 f8 f9 f10 f11 f12 f13 f14 f15 f16 f17 f18 f19 f20 f21 f22 f23 f24 f25 f26 f27 f28 f29 f30 f31 f32 f33 f34 f35 : Value) (v36 v37 v38 v39 v40 v41 v42 v43 v44 v45 v46 v47 v48 v49 v50 : Value) : Act := { tmps := #[f0, f1, .pointer (some ⟨bf, 0, none⟩), .pointer (some ⟨be, 0, none⟩), f4, f5, .int .i64 (k : Nat), f7, f8, f9, f10, f11, f12, f13, f14, f15, f16, f17, f18, f19, f20, f21, f22, f23, f24, f25, f26, f27, f28, f29, f30, f31, f32, f33, f34, f35, v36, v37, v38, v39, v40, v41, v42, v43, v44, v45, v46, v47, v48, v49, v50, undef], defers := [] }
def Put9I (g bf be n cap k : Nat) (x : En) (f0 f1 f4 f5 f7 f8 f9 f10 f11 f12 f13 f14 f15 f16 f17 f18 f19 f20 f21 f22 f23 f24 f25 f26 f27 f28 f29 f30 f31 f32 f33 f34 f35 : Value) (w5 : World) (l : List En) (L : Nat → Bool) (a : Act) (w : World) : Prop :=
  ∃ v36 v37 v38 v39 v40 v41 v42 v43 v44 v45 v46 v47 v48 v49 v50, a = Put9F g bf be n cap k x f0 f1 f4 f5 f7 f8 f9 f10 f11 f12 f13 f14 f15 f16 f17 f18 f19 f20 f21 f22 f23 f24 f25 f26 f27 f28 f29 f30 f31 f32 f33 f34 f35 v36 v37 v38 v39 v40 v41 v42 v43 v44 v45 v46 v47 v48 v49 v50 ∧ Put9S g bf be n cap k x f0 f1 f4 f5 f7 f8 f9 f10 f11 f12 f13 f14 f15 f16 f17 f18 f19 f20 f21 f22 f23 f24 f25 f26 f27 f28 f29 f30 f31 f32 f33 f34 f35 L v36 v37 v38 v39 v40 v41 v42 v43 v44 v45 v46 v47 v48 v49 v50 ∧ PW9 L (InsW 38 9 enC w5 (l.take k) x (l.drop k) (L 0) (L 5) (L 7) (L 8) (L 13) v36 v41 v43 v44 v49) ⟨bf, 2, none⟩ v49 w
/-- The slots, while the region runs. -/
structure Put9nS (bf be : Nat) (x : En) (f0 f1 f4 f5 f7 f8 f9 f10 f11 f12 f13 f14 f15 f16 f17 f18 f19 f20 f21 f22 f23 f24 f25 f26 f27 f28 f29 f30 f31 f32 f33 f34 f35 : Value) (L : Nat → Bool) (v36 v37 v38 v39 v40 v41 v42 v43 v44 v45 v46 v47 v48 v49 v50 : Value) : Prop where
  e37 : L 1 = true → v37 = .pointer (some ⟨bf, 2, none⟩)
  e38 : L 2 = true → v38 = .slice none 0 0
  e39 : L 3 = true → v39 = .int .i64 0
  e40 : L 4 = true → v40 = .slice none 0 0
  e42 : L 6 = true → v42 = .agg (enA x)
  e45 : L 9 = true → v45 = .pointer (some ⟨bf, 2, none⟩)
  e46 : L 10 = true → v46 = .slice none 0 0
  e47 : L 11 = true → v47 = .int .i64 0
  e48 : L 12 = true → v48 = .slice none 0 0
  e50 : L 14 = true → v50 = .pointer (some ⟨bf, 2, none⟩)
abbrev Put9nF (bf be : Nat) (x : En) (f0 f1 f4 f5 f7 f8 f9 f10 f11 f12 f13 f14 f15 f16 f17 f18 f19 f20 f21 f22 f23 f24 f25 f26 f27 f28 f29 f30 f31 f32 f33 f34 f35 : Value) (v36 v37 v38 v39 v40 v41 v42 v43 v44 v45 v46 v47 v48 v49 v50 : Value) : Act := { tmps := #[f0, f1, .pointer (some ⟨bf, 0, none⟩), .pointer (some ⟨be, 0, none⟩), f4, f5, .int .i64 0, f7, f8, f9, f10, f11, f12, f13, f14, f15, f16, f17, f18, f19, f20, f21, f22, f23, f24, f25, f26, f27, f28, f29, f30, f31, f32, f33, f34, f35, v36, v37, v38, v39, v40, v41, v42, v43, v44, v45, v46, v47, v48, v49, v50, undef], defers := [] }
def Put9nI (bf be : Nat) (x : En) (f0 f1 f4 f5 f7 f8 f9 f10 f11 f12 f13 f14 f15 f16 f17 f18 f19 f20 f21 f22 f23 f24 f25 f26 f27 f28 f29 f30 f31 f32 f33 f34 f35 : Value) (w5 : World) (L : Nat → Bool) (a : Act) (w : World) : Prop :=
  ∃ v36 v37 v38 v39 v40 v41 v42 v43 v44 v45 v46 v47 v48 v49 v50, a = Put9nF bf be x f0 f1 f4 f5 f7 f8 f9 f10 f11 f12 f13 f14 f15 f16 f17 f18 f19 f20 f21 f22 f23 f24 f25 f26 f27 f28 f29 f30 f31 f32 f33 f34 f35 v36 v37 v38 v39 v40 v41 v42 v43 v44 v45 v46 v47 v48 v49 v50 ∧ Put9nS bf be x f0 f1 f4 f5 f7 f8 f9 f10 f11 f12 f13 f14 f15 f16 f17 f18 f19 f20 f21 f22 f23 f24 f25 f26 f27 f28 f29 f30 f31 f32 f33 f34 f35 L v36 v37 v38 v39 v40 v41 v42 v43 v44 v45 v46 v47 v48 v49 v50 ∧ PW9 L (InsW 38 9 enC w5 [] x [] (L 0) (L 5) (L 7) (L 8) (L 13) v36 v41 v43 v44 v49) ⟨bf, 2, none⟩ v49 w

set_option maxRecDepth 100000 in
set_option maxHeartbeats 32000000 in
theorem rput9 (base b0 : Nat) (mo li : Int) (v0 : Value) (l0 : List En) (x : En) (w : World) (h : Own w b0 38 9 enC v0 l0) (hok : ∀ y ∈ l0, enOk y) (hx : enOk x) (hb : base ≤ w.heap.size) (hl : l0.length ≤ 100) :
    Calls Try.prog 42 #[.agg #[.int .i64 mo, .int .i64 li, v0], enV x] w fun e w' => ∃ v', e = .returned (.agg #[.int .i64 mo, .int .i64 li, v']) ∧ Own w' base 38 9 enC v' (putEn l0 x) ∧ Below w.heap.size w w' := by
  have hone := fd_one mo li h
  obtain ⟨fa, hfa⟩ : ∃ fa : Array Value, fa = #[.int .i64 mo, .int .i64 li, v0] := ⟨_, rfl⟩
  have HXO := Lib.hid hx
  have HBASE := Lib.hid hb
  have K1 := (((Kn.nil w).alloc fa 28).alloc (enA x) 38).alloc #[.int .i64 0, .int .i64 0, .slice none 0 0] 28
  have O1 : Own (((w.alloc (.cells fa 28)).alloc (.cells (enA x) 38)).alloc (.cells #[.int .i64 0, .int .i64 0, .slice none 0 0] 28)) 0 38 9 enC v0 l0 := (((h.alloc _).alloc _).alloc _).mono (Nat.zero_le _)
  rw [World.size_alloc, World.size_alloc] at K1
  rw [← hfa] at hone ⊢
  have S1 := Lib.hid (show P9 w w.heap.size (w.heap.size + 1) (w.heap.size + 1 + 1) mo li v0 x l0 (((w.alloc (.cells fa 28)).alloc (.cells (enA x) 38)).alloc (.cells #[.int .i64 0, .int .i64 0, .slice none 0 0] 28)) from ⟨by rw [hfa] at K1 ⊢; exact K1, O1⟩)
  have HFA := Lib.hid hfa
  have HOK0 := Lib.hid hok
  have HL00 := Lib.hid hl
  clear K1 O1 hx hb hok hl h hfa
  go_enter Try.func42, Try.ntmps42
  go_upto_region 1 with fail
  have HB0 := Lib.hid (show w.heap.size ≤ w.heap.size ∧ w.heap.size ≤ w.heap.size + 1 + 1 ∧ w.heap.size ≠ w.heap.size + 1 + 1 by omega)
  generalize hw1 : (((w.alloc (.cells fa 28)).alloc (.cells (enA x) 38)).alloc (.cells #[.int .i64 0, .int .i64 0, .slice none 0 0] 28)) = w1 at S1 ⊢
  generalize hbt : w.heap.size + 1 + 1 = bt at S1 ⊢
  generalize hbe : w.heap.size + 1 = be at S1 ⊢
  generalize hbf : w.heap.size = bf at S1 ⊢
  have HBF0 := Lib.hid (show w.heap.size ≤ bf by omega)
  have HBT0 := Lib.hid (show w.heap.size ≤ bt by omega)
  have HNE := Lib.hid (show bf ≠ bt by omega)
  have HNE2 := Lib.hid (show bf ≠ be by omega)
  clear hw1 hbt hbe hbf HB0
  have HFB := Lib.hid (show Blk w1 bf fa 28 by rw [HFA.out]; exact S1.out.kn.at 2 rfl)
  have HFZ := Lib.hid (show (Try.prog.info? 28).map (·.size) = some fa.size by rw [HFA.out]; exact fdSize)
  have cE0 := (S1.out.kn.at 1 rfl).cell 0
  simp only [enA, List.getElem?_toArray, List.getElem?_cons_succ, List.getElem?_cons_zero] at cE0
  have cE1 := (S1.out.kn.at 1 rfl).cell 1
  simp only [enA, List.getElem?_toArray, List.getElem?_cons_succ, List.getElem?_cons_zero] at cE1
  have cE2 := (S1.out.kn.at 1 rfl).cell 2
  simp only [enA, List.getElem?_toArray, List.getElem?_cons_succ, List.getElem?_cons_zero] at cE2
  have cE3 := (S1.out.kn.at 1 rfl).cell 3
  simp only [enA, List.getElem?_toArray, List.getElem?_cons_succ, List.getElem?_cons_zero] at cE3
  have cE4 := (S1.out.kn.at 1 rfl).cell 4
  simp only [enA, List.getElem?_toArray, List.getElem?_cons_succ, List.getElem?_cons_zero] at cE4
  have cE5 := (S1.out.kn.at 1 rfl).cell 5
  simp only [enA, List.getElem?_toArray, List.getElem?_cons_succ, List.getElem?_cons_zero] at cE5
  have cE6 := (S1.out.kn.at 1 rfl).cell 6
  simp only [enA, List.getElem?_toArray, List.getElem?_cons_succ, List.getElem?_cons_zero] at cE6
  have HAT := Lib.hid (show Calls Try.prog 19 #[.agg fa, .int .u16 (x.vid : Nat), mac (byteF x.mac)] w1 fun e w' => e = .returned (.int .i64 (atK enK (enK x) l0)) ∧ Below w1.heap.size w1 w' by
    rw [HFA.out]
    exact rat9_any 0 x.vid x.mac HXO.out mo li v0 l0 w1 S1.out.own HOK0.out (by have := HL00.out; omega))
  rcases atK_cases enK (enK x) l0 with ⟨g1, g2⟩ | ⟨k0, y0, g1, g2, g3⟩
  · rw [g1] at HAT
    go_upto_region 2 with (first
      | (refine wpList_load_row rfl 28 _ rfl bf rfl 28 fa (0, 0) _ HFB.out Try.underlying28 rfl HFZ.out ?_)
      | (go_at_call 19; refine HAT.out.mono ?_; rintro e w2 ⟨rfl, hb2⟩))
    obtain ⟨l, hll⟩ : ∃ l, l = l0 := ⟨_, rfl⟩
    have HL4 := Lib.hid (show l = cutK enK (enK x) l0 by rw [hll, cutK_none enK g2])
    have S4 := Lib.hid (show P9 w bf be bt mo li v0 x l w2 by rw [hll]; exact S1.out.next hb2)
    have HOK := Lib.hid (show ∀ y ∈ l, enOk y by rw [hll]; exact HOK0.out)
    have HL := Lib.hid (show l.length ≤ 100 by rw [hll]; exact HL00.out)
    clear cE0 cE1 cE2 cE3 cE4 cE5 cE6 hb2 S1 HAT HFB HFZ hll g1 g2 HFA
    rcases S4.out.own.cases with ⟨hsv, hl0⟩ | ⟨g, cap, hsv, -, -, hcap⟩
    · subst hsv
      have HL0 := Lib.hid hl0
      clear hl0
      have hS := S4
      have RL := Lib.hid (show putEn l0 x = [] ++ [x] ++ [] by unfold putEn layK; rw [← HL4.out, HL0.out]; rfl)
      go_upto_region 5 with fail
      refine wp_loop_rounds 1 ?_
      rw [rounds_succ]
      go_upto_region 5 with fail
      refine wp_region_quiet (C := P9 w bf be bt mo li (.slice none 0 0) x l) (by kernel_rfl) (by kernel_rfl) hS.out.drew ?_
      (refine q_val (v := ?_) (by rfl) ?_ ?_; rotate_left; (· (intro w hC; go_simp; try with_reducible rfl)); (try simp only [Act.put, List.getElem_toArray, List.getElem_cons_succ, List.getElem_cons_zero, List.setIfInBounds_toArray, List.set_cons_zero, List.set_cons_succ]))
      (refine q_val (v := ?_) (by rfl) ?_ ?_; rotate_left; (· (intro w hC; go_simp; try with_reducible rfl)); (try simp only [Act.put, List.getElem_toArray, List.getElem_cons_succ, List.getElem_cons_zero, List.setIfInBounds_toArray, List.set_cons_zero, List.set_cons_succ]))
      (refine q_val (v := ?_) (by rfl) ?_ ?_; rotate_left; (· (intro w hC; have q := (hC.kn.at 2 rfl).cell 2; simp only [List.getElem?_toArray, List.getElem?_cons_succ, List.getElem?_cons_zero] at q; go_simp; try with_reducible rfl)); (try simp only [Act.put, List.getElem_toArray, List.getElem_cons_succ, List.getElem_cons_zero, List.setIfInBounds_toArray, List.set_cons_zero, List.set_cons_succ]))
      (refine q_val (v := ?_) (by rfl) ?_ ?_; rotate_left; (· (intro w hC; go_simp; try with_reducible rfl)); (try simp only [Act.put, List.getElem_toArray, List.getElem_cons_succ, List.getElem_cons_zero, List.setIfInBounds_toArray, List.set_cons_zero, List.set_cons_succ]))
      (refine q_val (v := ?_) (by rfl) ?_ ?_; rotate_left; (· (intro w hC; go_simp; try with_reducible rfl)); (try simp only [Act.put, List.getElem_toArray, List.getElem_cons_succ, List.getElem_cons_zero, List.setIfInBounds_toArray, List.set_cons_zero, List.set_cons_succ]))
      (refine q_val (v := ?_) (by rfl) ?_ ?_; rotate_left; (· (intro w hC; go_simp; try with_reducible rfl)); (try simp only [Act.put, List.getElem_toArray, List.getElem_cons_succ, List.getElem_cons_zero, List.setIfInBounds_toArray, List.set_cons_zero, List.set_cons_succ]))
      (refine q_skip (by rfl) ?_; (try simp only [Act.put, List.getElem_toArray, List.getElem_cons_succ, List.getElem_cons_zero, List.setIfInBounds_toArray, List.set_cons_zero, List.set_cons_succ]))
      (refine q_skip (by rfl) ?_; (try simp only [Act.put, List.getElem_toArray, List.getElem_cons_succ, List.getElem_cons_zero, List.setIfInBounds_toArray, List.set_cons_zero, List.set_cons_succ]))
      (refine q_skip (by rfl) ?_; (try simp only [Act.put, List.getElem_toArray, List.getElem_cons_succ, List.getElem_cons_zero, List.setIfInBounds_toArray, List.set_cons_zero, List.set_cons_succ]))
      (refine q_skip (by rfl) ?_; (try simp only [Act.put, List.getElem_toArray, List.getElem_cons_succ, List.getElem_cons_zero, List.setIfInBounds_toArray, List.set_cons_zero, List.set_cons_succ]))
      (refine q_skip (by rfl) ?_; (try simp only [Act.put, List.getElem_toArray, List.getElem_cons_succ, List.getElem_cons_zero, List.setIfInBounds_toArray, List.set_cons_zero, List.set_cons_succ]))
      (refine q_skip (by rfl) ?_; (try simp only [Act.put, List.getElem_toArray, List.getElem_cons_succ, List.getElem_cons_zero, List.setIfInBounds_toArray, List.set_cons_zero, List.set_cons_succ]))
      (refine q_skip (by rfl) ?_; (try simp only [Act.put, List.getElem_toArray, List.getElem_cons_succ, List.getElem_cons_zero, List.setIfInBounds_toArray, List.set_cons_zero, List.set_cons_succ]))
      (refine q_val (v := ?_) (by rfl) ?_ ?_; rotate_left; (· (intro w hC; go_simp; try with_reducible rfl)); (try simp only [Act.put, List.getElem_toArray, List.getElem_cons_succ, List.getElem_cons_zero, List.setIfInBounds_toArray, List.set_cons_zero, List.set_cons_succ]))
      refine wpQuiet_nil ?_
      intro w5 hC5
      have S5 := Lib.hid hC5
      clear hC5
      go_upto_region 7 with fail
      have HCF := Lib.hid (show ∀ w', Below w5.heap.size w5 w' → w'.cell? ⟨bf, 2, none⟩ = some (.slice none 0 0) from fun w' hb => ((S5.out.kn.at 2 rfl).below hb (S5.out.kn.at 2 rfl).lt).cell 2)
      have HBF := Lib.hid (show ∀ w', Below w5.heap.size w5 w' → Blk w' bf #[.int .i64 mo, .int .i64 li, (.slice none 0 0)] 28 from fun w' hb => (S5.out.kn.at 2 rfl).below hb (S5.out.kn.at 2 rfl).lt)
      have HBK := Lib.hid (show ∀ w', Below w5.heap.size w5 w' → Blk w' be (enA x) 38 from fun w' hb => (S5.out.kn.at 1 rfl).below hb (S5.out.kn.at 1 rfl).lt)
      have LF := Lib.hid (show bf < w5.heap.size from (S5.out.kn.at 2 rfl).lt)
      have LT := Lib.hid (show bt < w5.heap.size from (S5.out.kn.at 0 rfl).lt)
      have HS1 := Lib.hid (show ∀ w', Below w5.heap.size w5 w' → Src w' enC (.slice none 0 0) ([] : List En) from fun w' hb => .inl ⟨rfl, rfl⟩)
      have HS2 := Lib.hid (show ∀ w', Below w5.heap.size w5 w' → Src w' enC (.slice none 0 0) ([] : List En) from fun w' hb => .inl ⟨rfl, rfl⟩)
      have HLA := Lib.hid (show ([] : List En).length ≤ 1000 by simp)
      have HLB := Lib.hid (show ([] : List En).length + ([] : List En).length ≤ 1000 by simp)
      refine wp_region_inv (I := Put9nI bf be x _ _ _ _ _ _ _ _ _ _ _ _ _ _ _ _ _ _ _ _ _ _ _ _ _ _ _ _ _ _ _ _ _ w5) (by kernel_rfl) (by kernel_rfl) ⟨undef, undef, undef, undef, undef, undef, undef, undef, undef, undef, undef, undef, undef, undef, undef, rfl, ⟨(fun h => Bool.noConfusion h), (fun h => Bool.noConfusion h), (fun h => Bool.noConfusion h), (fun h => Bool.noConfusion h), (fun h => Bool.noConfusion h), (fun h => Bool.noConfusion h), (fun h => Bool.noConfusion h), (fun h => Bool.noConfusion h), (fun h => Bool.noConfusion h), (fun h => Bool.noConfusion h)⟩, ⟨fun _ => InsW.start w5, fun h => Bool.noConfusion h, fun h => Bool.noConfusion h⟩⟩ ?_ ?_
      · intro i hi L a w' hI hL haft
        obtain ⟨v36, v37, v38, v39, v40, v41, v42, v43, v44, v45, v46, v47, v48, v49, v50, rfl, hs, hw⟩ := hI
        match i, hi with
        | 0, _ =>
          have hI := hw.n (hw.no 0 (by decide) hL)
          exact i_val rfl (.slice (some ⟨w'.heap.size, 0, none⟩) 0 0) (w'.alloc (.cells #[] 38)) (by rfl) (by go_simp) ⟨(.slice (some ⟨w'.heap.size, 0, none⟩) 0 0), v37, v38, v39, v40, v41, v42, v43, v44, v45, v46, v47, v48, v49, v50, rfl, { hs with }, hw.step 0 (by decide) hL (hI.make0 hL)⟩
        | 1, _ =>
          have hI := hw.n (hw.no 1 (by decide) hL)
          exact i_val rfl (.pointer (some ⟨bf, 2, none⟩)) w' (by rfl) (by go_simp) ⟨v36, (.pointer (some ⟨bf, 2, none⟩)), v38, v39, v40, v41, v42, v43, v44, v45, v46, v47, v48, v49, v50, rfl, { hs with e37 := fun _ => rfl }, (hw.step 1 (by decide) hL hI)⟩
        | 2, _ =>
          have e37x := hs.e37 (haft 1 (by decide))
          subst e37x
          have hI := hw.n (hw.no 2 (by decide) hL)
          have hc := HCF.out w' hI.below
          exact i_val rfl (.slice none 0 0) w' (by rfl) (by go_simp) ⟨v36, (.pointer (some ⟨bf, 2, none⟩)), (.slice none 0 0), v39, v40, v41, v42, v43, v44, v45, v46, v47, v48, v49, v50, rfl, { hs with e38 := fun _ => rfl }, (hw.step 2 (by decide) hL hI)⟩
        | 3, _ =>
          have hI := hw.n (hw.no 3 (by decide) hL)
          exact i_val rfl (.int .i64 0) w' (by rfl) (by go_simp) ⟨v36, v37, v38, (.int .i64 0), v40, v41, v42, v43, v44, v45, v46, v47, v48, v49, v50, rfl, { hs with e39 := fun _ => rfl }, (hw.step 3 (by decide) hL hI)⟩
        | 4, _ =>
          have e38x := hs.e38 (haft 2 (by decide))
          subst e38x
          have e39x := hs.e39 (haft 3 (by decide))
          subst e39x
          have hI := hw.n (hw.no 4 (by decide) hL)
          exact i_val rfl (.slice none 0 0) w' (by rfl) (by go_simp) ⟨v36, v37, (.slice none 0 0), (.int .i64 0), (.slice none 0 0), v41, v42, v43, v44, v45, v46, v47, v48, v49, v50, rfl, { hs with e40 := fun _ => rfl }, (hw.step 4 (by decide) hL hI)⟩
        | 5, _ =>
          have e40x := hs.e40 (haft 4 (by decide))
          subst e40x
          have hI := hw.n (hw.no 5 (by decide) hL)
          obtain ⟨u, w2, hrun, hJ⟩ := hI.app4 enE (haft 0 (by decide)) hL (HS1.out w' hI.below) HLA.out 26
          exact i_wp rfl (by rfl) (wp_append_lst _ _ 26 rfl u w2 hrun ⟨v36, v37, v38, v39, (.slice none 0 0), u, v42, v43, v44, v45, v46, v47, v48, v49, v50, rfl, { hs with }, hw.step 5 (by decide) hL hJ⟩)
        | 6, _ =>
          have hI := hw.n (hw.no 6 (by decide) hL)
          exact i_val rfl (.agg (enA x)) w' (by rfl) (run_loadVar_of 38 _ rfl be rfl 38 (enA x) _ (HBK.out w' hI.below) Try.underlying38 rfl enSize) ⟨v36, v37, v38, v39, v40, v41, (.agg (enA x)), v43, v44, v45, v46, v47, v48, v49, v50, rfl, { hs with e42 := fun _ => rfl }, (hw.step 6 (by decide) hL hI)⟩
        | 7, _ =>
          have e42x := hs.e42 (haft 6 (by decide))
          subst e42x
          have hI := hw.n (hw.no 7 (by decide) hL)
          exact i_val rfl (.slice (some ⟨w'.heap.size, 0, none⟩) 1 1) (w'.alloc (.cells (enA x) 38)) (by rfl) (by go_simp) ⟨v36, v37, v38, v39, v40, v41, (.agg (enA x)), (.slice (some ⟨w'.heap.size, 0, none⟩) 1 1), v44, v45, v46, v47, v48, v49, v50, rfl, { hs with }, hw.step 7 (by decide) hL (hI.make6 enE hL (enA x) rfl)⟩
        | 8, _ =>
          have hI := hw.n (hw.no 8 (by decide) hL)
          obtain ⟨u, w2, hrun, hJ⟩ := hI.app7 enE (haft 5 (by decide)) (haft 7 (by decide)) hL HLA.out 26
          exact i_wp rfl (by rfl) (wp_append_lst _ _ 26 rfl u w2 hrun ⟨v36, v37, v38, v39, v40, v41, v42, v43, u, v45, v46, v47, v48, v49, v50, rfl, { hs with }, hw.step 8 (by decide) hL hJ⟩)
        | 9, _ =>
          have hI := hw.n (hw.no 9 (by decide) hL)
          exact i_val rfl (.pointer (some ⟨bf, 2, none⟩)) w' (by rfl) (by go_simp) ⟨v36, v37, v38, v39, v40, v41, v42, v43, v44, (.pointer (some ⟨bf, 2, none⟩)), v46, v47, v48, v49, v50, rfl, { hs with e45 := fun _ => rfl }, (hw.step 9 (by decide) hL hI)⟩
        | 10, _ =>
          have e45x := hs.e45 (haft 9 (by decide))
          subst e45x
          have hI := hw.n (hw.no 10 (by decide) hL)
          have hc := HCF.out w' hI.below
          exact i_val rfl (.slice none 0 0) w' (by rfl) (by go_simp) ⟨v36, v37, v38, v39, v40, v41, v42, v43, v44, (.pointer (some ⟨bf, 2, none⟩)), (.slice none 0 0), v47, v48, v49, v50, rfl, { hs with e46 := fun _ => rfl }, (hw.step 10 (by decide) hL hI)⟩
        | 11, _ =>
          have hI := hw.n (hw.no 11 (by decide) hL)
          exact i_val rfl (.int .i64 0) w' (by rfl) (by go_simp) ⟨v36, v37, v38, v39, v40, v41, v42, v43, v44, v45, v46, (.int .i64 0), v48, v49, v50, rfl, { hs with e47 := fun _ => rfl }, (hw.step 11 (by decide) hL hI)⟩
        | 12, _ =>
          have e46x := hs.e46 (haft 10 (by decide))
          subst e46x
          have e47x := hs.e47 (haft 11 (by decide))
          subst e47x
          have hI := hw.n (hw.no 12 (by decide) hL)
          exact i_val rfl (.slice none 0 0) w' (by rfl) (by go_simp) ⟨v36, v37, v38, v39, v40, v41, v42, v43, v44, v45, (.slice none 0 0), (.int .i64 0), (.slice none 0 0), v49, v50, rfl, { hs with e48 := fun _ => rfl }, (hw.step 12 (by decide) hL hI)⟩
        | 13, _ =>
          have e48x := hs.e48 (haft 12 (by decide))
          subst e48x
          have hI := hw.n (hw.no 13 (by decide) hL)
          obtain ⟨u, w2, hrun, hJ⟩ := hI.app11 enE (haft 8 (by decide)) hL (HS2.out w' hI.below) HLB.out 26
          exact i_wp rfl (by rfl) (wp_append_lst _ _ 26 rfl u w2 hrun ⟨v36, v37, v38, v39, v40, v41, v42, v43, v44, v45, v46, v47, (.slice none 0 0), u, v50, rfl, { hs with }, hw.step 13 (by decide) hL hJ⟩)
        | 14, _ =>
          have hI := hw.n (hw.no 14 (by decide) hL)
          exact i_val rfl (.pointer (some ⟨bf, 2, none⟩)) w' (by rfl) (by go_simp) ⟨v36, v37, v38, v39, v40, v41, v42, v43, v44, v45, v46, v47, v48, v49, (.pointer (some ⟨bf, 2, none⟩)), rfl, { hs with e50 := fun _ => rfl }, (hw.step 14 (by decide) hL hI)⟩
        | 15, _ =>
          have e50x := hs.e50 (haft 14 (by decide))
          subst e50x
          have hI := hw.n hL
          have hO := hI.p11 (haft 13 (by decide))
          have hbf := HBF.out w' hI.below
          obtain ⟨gg, cc, hv, -⟩ : ∃ gg cc, v49 = .slice (some ⟨gg, 0, none⟩) ([] ++ [x] ++ []).length cc ∧ True := by
            rcases hO.cases with ⟨-, q⟩ | ⟨gg, cc, hv, -⟩
            · simp at q
            · exact ⟨gg, cc, hv, trivial⟩
          obtain ⟨nn, hnn⟩ : ∃ nn, ([] ++ [x] ++ []).length = nn := ⟨_, rfl⟩
          rw [hnn] at hv
          subst hv
          exact i_wp rfl (by rfl) (wp_store_cell _ _ _ rfl ⟨bf, 2, none⟩ (.slice (some ⟨gg, 0, none⟩) nn cc) rfl rfl (by have c := hbf.cell 2; simp only [List.getElem?_toArray, List.getElem?_cons_succ, List.getElem?_cons_zero] at c; have fr := hbf.free 2; go_simp) ⟨v36, v37, v38, v39, v40, v41, v42, v43, v44, v45, v46, v47, v48, (.slice (some ⟨gg, 0, none⟩) nn cc), (.pointer (some ⟨bf, 2, none⟩)), rfl, { hs with }, hw.last hL (fun i hi => haft i (by match i, hi with | 0, _ => decide | 1, _ => decide | 2, _ => decide | 3, _ => decide | 4, _ => decide | 5, _ => decide | 6, _ => decide | 7, _ => decide | 8, _ => decide | 9, _ => decide | 10, _ => decide | 11, _ => decide | 12, _ => decide | 13, _ => decide | 14, _ => decide | k + 15, h => (exfalso; have h2 : k + 15 < 15 := h; omega))) id⟩)
        | k + 16, h =>
          exfalso
          have h2 : k + 16 < 16 := h
          omega
      intro L a w3 hI hall
      obtain ⟨v36, v37, v38, v39, v40, v41, v42, v43, v44, v45, v46, v47, v48, v49, v50, rfl, hs, hw⟩ := hI
      obtain ⟨W, hW, rfl⟩ := hw.y (hall 15 (by decide))
      have O6 := Lib.hid (hW.p11 (hall 13 (by decide)))
      have B6 := Lib.hid hW.below
      have hkn := S5.out.kn.next hW.below
      have HQ := Lib.hid (show ∀ q, v49.ownBlock = some q → w5.heap.size ≤ q from fun q hq => (O6.out.lt q hq).1)
      have O7 := Lib.hid (O6.out.setCell (a := ⟨bf, 2, none⟩) (fun q => by have := HQ.out bf q; have := LF.out; omega) v49)
      have hbf2 : Blk (W.setCell ⟨bf, 2, none⟩ v49) bf #[.int .i64 mo, .int .i64 li, v49] 28 := (hkn.at 2 rfl).set 2 v49
      have hbt2 : Blk (W.setCell ⟨bf, 2, none⟩ v49) bt #[.int .i64 0, .int .i64 0, .slice none 0 0] 28 := (hkn.at 0 rfl).other (a := ⟨bf, 2, none⟩) (by have := HNE.out; simpa using this) v49
      have B7 := Lib.hid (hkn.below.setCell (show w.heap.size ≤ (⟨bf, 2, none⟩ : Addr).block from HBF0.out) v49)
      clear hs hw hall hW hkn
      generalize W.setCell ⟨bf, 2, none⟩ v49 = W7 at *
      have HF2 := Lib.hid hbf2
      have HT2 := Lib.hid hbt2
      clear hbf2 hbt2
      go_wp2_with (first
        | (refine wpList_load_row rfl 28 _ rfl bf rfl 28 #[.int .i64 mo, .int .i64 li, v49] (0, 0) _ HF2.out Try.underlying28 rfl fdSize ?_)
        | (refine wpList_store_row rfl 28 _ _ rfl bt #[.int .i64 mo, .int .i64 li, v49] rfl rfl 28 #[.int .i64 0, .int .i64 0, .slice none 0 0] HT2.out fdSize rfl (fd_one mo li O6.out) ?_))
      exact bodyPost_ret (v := .agg #[.int .i64 mo, .int .i64 li, v49]) (results_cell_row Try.results42 _ _ bt 28 #[.int .i64 mo, .int .i64 li, v49] (0, 0) _ rfl (HT2.out.row _) Try.underlying28 rfl fdSize) rfl ⟨v49, rfl, by rw [RL.out]; exact (Own.setRow (O7.out.mono (Nat.le_trans HBASE.out S5.out.kn.below.size)) (fun q => by have := HQ.out bt q; have := LT.out; omega) _), below_setRow B7.out HBT0.out _⟩
    · obtain ⟨n, hn⟩ : ∃ n, l.length = n := ⟨_, rfl⟩
      rw [hn] at hsv hcap
      subst hsv
      have HN := Lib.hid hn
      have HCAP := Lib.hid hcap
      clear hn hcap
      obtain ⟨k, hk⟩ : ∃ k, posK enK (enK x) l = k := ⟨_, rfl⟩
      have PK := posK_spec enK (enK x) l
      have RL := Lib.hid (show putEn l0 x = l.take k ++ [x] ++ l.drop k by unfold putEn layK; rw [← HL4.out, hk])
      rw [hk, HN.out] at PK
      have KN := Lib.hid PK.1
      have P2 := Lib.hid PK.2.1
      have P3 := Lib.hid PK.2.2
      have hn300 : (n : Int) ≤ 300 := by have := HL.out; have := HN.out; omega
      have hncap : (n : Int) ≤ cap := by have := HCAP.out.1; omega
      have hcm : (cap : Int) ≤ 9223372036854775807 := by have := HCAP.out.2; unfold maxLen at this; omega
      clear PK hk
      go_upto_region 5 with fail
      go_loopw [6] (fun i wr => ∃ j : Nat, i = .int .i64 j ∧ j ≤ k ∧ P9 w bf be bt mo li (.slice (some ⟨g, 0, none⟩) n cap) x l wr) (fun i _ => n - (intOf i).toNat)
      case atStart => exact ⟨0, rfl, Nat.zero_le _, S4.out⟩
      case round =>
        obtain ⟨j, rfl, hj, hSr⟩ := hrel
        have hS := Lib.hid hSr
        clear hSr
        by_cases hlt : j < k
        · have hjn : j < n := by have := KN.out; omega
          obtain ⟨y, hy⟩ : ∃ y, l[j]? = some y := ⟨_, List.getElem?_eq_getElem (show j < l.length by rw [HN.out]; exact hjn)⟩
          obtain ⟨d, hd⟩ : ∃ d, d = decide (enK y < enK x) := ⟨_, rfl⟩
          have hdt : d = true := by rw [hd, decide_eq_true_eq]; exact P2.out j y hlt hy
          have HRY := Lib.hid (show ∀ w', P9 w bf be bt mo li (.slice (some ⟨g, 0, none⟩) n cap) x l w' → w'.rangeAt g (j * 9) (enA y).toList from fun w' hC i u hu => by
            have q := Own.at enC_len (by rw [HN.out]; exact hC.own) j i y hy (by have := (List.getElem?_eq_some_iff.1 hu).1; simpa using this)
            rw [q]
            exact hu)
          have HLESS := Lib.hid (show ∀ W : World, Calls Try.prog 55 #[enV y, enV x] W fun e w' => e = .returned (.bool d) ∧ Below W.heap.size W w' from fun W => by
            rw [hd]
            exact rless9 y x (HOK.out y (List.mem_of_getElem? hy)) HXO.out W)
          have hjn' : (j : Int) < n := by omega
          clear hy hd
          subst hdt
          go_upto_region 5 with fail
          refine wp_region_quiet (C := P9 w bf be bt mo li (.slice (some ⟨g, 0, none⟩) n cap) x l) (by kernel_rfl) (by kernel_rfl) hS.out.drew ?_
          (refine q_val (v := ?_) (by rfl) ?_ ?_; rotate_left; (· (intro w hC; go_simp; try with_reducible rfl)); (try simp only [Act.put, List.getElem_toArray, List.getElem_cons_succ, List.getElem_cons_zero, List.setIfInBounds_toArray, List.set_cons_zero, List.set_cons_succ]))
          (refine q_val (v := ?_) (by rfl) ?_ ?_; rotate_left; (· (intro w hC; go_simp; try with_reducible rfl)); (try simp only [Act.put, List.getElem_toArray, List.getElem_cons_succ, List.getElem_cons_zero, List.setIfInBounds_toArray, List.set_cons_zero, List.set_cons_succ]))
          (refine q_val (v := ?_) (by rfl) ?_ ?_; rotate_left; (· (intro w hC; have q := (hC.kn.at 2 rfl).cell 2; simp only [List.getElem?_toArray, List.getElem?_cons_succ, List.getElem?_cons_zero] at q; go_simp; try with_reducible rfl)); (try simp only [Act.put, List.getElem_toArray, List.getElem_cons_succ, List.getElem_cons_zero, List.setIfInBounds_toArray, List.set_cons_zero, List.set_cons_succ]))
          (refine q_val (v := ?_) (by rfl) ?_ ?_; rotate_left; (· (intro w hC; go_simp; try with_reducible rfl)); (try simp only [Act.put, List.getElem_toArray, List.getElem_cons_succ, List.getElem_cons_zero, List.setIfInBounds_toArray, List.set_cons_zero, List.set_cons_succ]))
          (refine q_val (v := ?_) (by rfl) ?_ ?_; rotate_left; (· (intro w hC; go_simp; try with_reducible rfl)); (try simp only [Act.put, List.getElem_toArray, List.getElem_cons_succ, List.getElem_cons_zero, List.setIfInBounds_toArray, List.set_cons_zero, List.set_cons_succ]))
          (refine q_val (v := ?_) (by rfl) ?_ ?_; rotate_left; (· (intro w hC; go_simp; try with_reducible rfl)); (try simp only [Act.put, List.getElem_toArray, List.getElem_cons_succ, List.getElem_cons_zero, List.setIfInBounds_toArray, List.set_cons_zero, List.set_cons_succ]))
          (refine q_val (v := ?_) (by rfl) ?_ ?_; rotate_left; (· (intro w hC; go_simp; try with_reducible rfl)); (try simp only [Act.put, List.getElem_toArray, List.getElem_cons_succ, List.getElem_cons_zero, List.setIfInBounds_toArray, List.set_cons_zero, List.set_cons_succ]))
          (refine q_val (v := ?_) (by rfl) ?_ ?_; rotate_left; (· (intro w hC; have q := (hC.kn.at 2 rfl).cell 2; simp only [List.getElem?_toArray, List.getElem?_cons_succ, List.getElem?_cons_zero] at q; go_simp; try with_reducible rfl)); (try simp only [Act.put, List.getElem_toArray, List.getElem_cons_succ, List.getElem_cons_zero, List.setIfInBounds_toArray, List.set_cons_zero, List.set_cons_succ]))
          (refine q_val (v := ?_) (by rfl) ?_ ?_; rotate_left; (· (intro w hC; go_simp; try with_reducible rfl)); (try simp only [Act.put, List.getElem_toArray, List.getElem_cons_succ, List.getElem_cons_zero, List.setIfInBounds_toArray, List.set_cons_zero, List.set_cons_succ]))
          (refine q_val (v := ?_) (by rfl) ?_ ?_; rotate_left; (· (intro w hC; go_simp; try with_reducible rfl)); (try simp only [Act.put, List.getElem_toArray, List.getElem_cons_succ, List.getElem_cons_zero, List.setIfInBounds_toArray, List.set_cons_zero, List.set_cons_succ]))
          (refine q_val (v := .agg (enA y)) (by rfl) (fun w hC => run_loadRange 38 _ rfl g (j * 9) rfl (enA y) _ (HRY.out w hC) Try.underlying38 rfl enSize) ?_; (try simp only [Act.put, List.getElem_toArray, List.getElem_cons_succ, List.getElem_cons_zero, List.setIfInBounds_toArray, List.set_cons_zero, List.set_cons_succ]))
          (refine q_val (v := .agg (enA x)) (by rfl) (fun w hC => run_loadVar_of 38 _ rfl be rfl 38 (enA x) _ (hC.kn.at 1 rfl) Try.underlying38 rfl enSize) ?_; (try simp only [Act.put, List.getElem_toArray, List.getElem_cons_succ, List.getElem_cons_zero, List.setIfInBounds_toArray, List.set_cons_zero, List.set_cons_succ]))
          (refine q_call (v := .bool true) 55 #[enV y, enV x] (by rfl) (fun w hC => by go_simp) (fun w hC => calls_in (HLESS.out w) (fun w' hb => hC.next hb)) ?_; (try simp only [Act.put, List.getElem_toArray, List.getElem_cons_succ, List.getElem_cons_zero, List.setIfInBounds_toArray, List.set_cons_zero, List.set_cons_succ]))
          (refine q_val (v := ?_) (by rfl) ?_ ?_; rotate_left; (· (intro w hC; go_simp; try with_reducible rfl)); (try simp only [Act.put, List.getElem_toArray, List.getElem_cons_succ, List.getElem_cons_zero, List.setIfInBounds_toArray, List.set_cons_zero, List.set_cons_succ]))
          refine wpQuiet_nil ?_
          intro w5 hC5
          have S5 := Lib.hid hC5
          clear hC5
          go_wp2_with fail
          go_roundw
          case rel => exact ⟨j + 1, by go_num, by omega, S5.out⟩
          case measure => simp [intOf]; omega
        · obtain rfl : k = j := by omega
          by_cases hjn : k < n
          · obtain ⟨y, hy⟩ : ∃ y, l[k]? = some y := ⟨_, List.getElem?_eq_getElem (show k < l.length by rw [HN.out]; exact hjn)⟩
            obtain ⟨d, hd⟩ : ∃ d, d = decide (enK y < enK x) := ⟨_, rfl⟩
            have hdt : d = false := by rw [hd, decide_eq_false_iff_not]; exact P3.out y hy
            have HRY := Lib.hid (show ∀ w', P9 w bf be bt mo li (.slice (some ⟨g, 0, none⟩) n cap) x l w' → w'.rangeAt g (k * 9) (enA y).toList from fun w' hC i u hu => by
              have q := Own.at enC_len (by rw [HN.out]; exact hC.own) k i y hy (by have := (List.getElem?_eq_some_iff.1 hu).1; simpa using this)
              rw [q]
              exact hu)
            have HLESS := Lib.hid (show ∀ W : World, Calls Try.prog 55 #[enV y, enV x] W fun e w' => e = .returned (.bool d) ∧ Below W.heap.size W w' from fun W => by
              rw [hd]
              exact rless9 y x (HOK.out y (List.mem_of_getElem? hy)) HXO.out W)
            have hjn' : (k : Int) < n := by omega
            clear hy hd hlt hj hjn
            subst hdt
            go_upto_region 5 with fail
            refine wp_region_quiet (C := P9 w bf be bt mo li (.slice (some ⟨g, 0, none⟩) n cap) x l) (by kernel_rfl) (by kernel_rfl) hS.out.drew ?_
            (refine q_val (v := ?_) (by rfl) ?_ ?_; rotate_left; (· (intro w hC; go_simp; try with_reducible rfl)); (try simp only [Act.put, List.getElem_toArray, List.getElem_cons_succ, List.getElem_cons_zero, List.setIfInBounds_toArray, List.set_cons_zero, List.set_cons_succ]))
            (refine q_val (v := ?_) (by rfl) ?_ ?_; rotate_left; (· (intro w hC; go_simp; try with_reducible rfl)); (try simp only [Act.put, List.getElem_toArray, List.getElem_cons_succ, List.getElem_cons_zero, List.setIfInBounds_toArray, List.set_cons_zero, List.set_cons_succ]))
            (refine q_val (v := ?_) (by rfl) ?_ ?_; rotate_left; (· (intro w hC; have q := (hC.kn.at 2 rfl).cell 2; simp only [List.getElem?_toArray, List.getElem?_cons_succ, List.getElem?_cons_zero] at q; go_simp; try with_reducible rfl)); (try simp only [Act.put, List.getElem_toArray, List.getElem_cons_succ, List.getElem_cons_zero, List.setIfInBounds_toArray, List.set_cons_zero, List.set_cons_succ]))
            (refine q_val (v := ?_) (by rfl) ?_ ?_; rotate_left; (· (intro w hC; go_simp; try with_reducible rfl)); (try simp only [Act.put, List.getElem_toArray, List.getElem_cons_succ, List.getElem_cons_zero, List.setIfInBounds_toArray, List.set_cons_zero, List.set_cons_succ]))
            (refine q_val (v := ?_) (by rfl) ?_ ?_; rotate_left; (· (intro w hC; go_simp; try with_reducible rfl)); (try simp only [Act.put, List.getElem_toArray, List.getElem_cons_succ, List.getElem_cons_zero, List.setIfInBounds_toArray, List.set_cons_zero, List.set_cons_succ]))
            (refine q_val (v := ?_) (by rfl) ?_ ?_; rotate_left; (· (intro w hC; go_simp; try with_reducible rfl)); (try simp only [Act.put, List.getElem_toArray, List.getElem_cons_succ, List.getElem_cons_zero, List.setIfInBounds_toArray, List.set_cons_zero, List.set_cons_succ]))
            (refine q_val (v := ?_) (by rfl) ?_ ?_; rotate_left; (· (intro w hC; go_simp; try with_reducible rfl)); (try simp only [Act.put, List.getElem_toArray, List.getElem_cons_succ, List.getElem_cons_zero, List.setIfInBounds_toArray, List.set_cons_zero, List.set_cons_succ]))
            (refine q_val (v := ?_) (by rfl) ?_ ?_; rotate_left; (· (intro w hC; have q := (hC.kn.at 2 rfl).cell 2; simp only [List.getElem?_toArray, List.getElem?_cons_succ, List.getElem?_cons_zero] at q; go_simp; try with_reducible rfl)); (try simp only [Act.put, List.getElem_toArray, List.getElem_cons_succ, List.getElem_cons_zero, List.setIfInBounds_toArray, List.set_cons_zero, List.set_cons_succ]))
            (refine q_val (v := ?_) (by rfl) ?_ ?_; rotate_left; (· (intro w hC; go_simp; try with_reducible rfl)); (try simp only [Act.put, List.getElem_toArray, List.getElem_cons_succ, List.getElem_cons_zero, List.setIfInBounds_toArray, List.set_cons_zero, List.set_cons_succ]))
            (refine q_val (v := ?_) (by rfl) ?_ ?_; rotate_left; (· (intro w hC; go_simp; try with_reducible rfl)); (try simp only [Act.put, List.getElem_toArray, List.getElem_cons_succ, List.getElem_cons_zero, List.setIfInBounds_toArray, List.set_cons_zero, List.set_cons_succ]))
            (refine q_val (v := .agg (enA y)) (by rfl) (fun w hC => run_loadRange 38 _ rfl g (k * 9) rfl (enA y) _ (HRY.out w hC) Try.underlying38 rfl enSize) ?_; (try simp only [Act.put, List.getElem_toArray, List.getElem_cons_succ, List.getElem_cons_zero, List.setIfInBounds_toArray, List.set_cons_zero, List.set_cons_succ]))
            (refine q_val (v := .agg (enA x)) (by rfl) (fun w hC => run_loadVar_of 38 _ rfl be rfl 38 (enA x) _ (hC.kn.at 1 rfl) Try.underlying38 rfl enSize) ?_; (try simp only [Act.put, List.getElem_toArray, List.getElem_cons_succ, List.getElem_cons_zero, List.setIfInBounds_toArray, List.set_cons_zero, List.set_cons_succ]))
            (refine q_call (v := .bool false) 55 #[enV y, enV x] (by rfl) (fun w hC => by go_simp) (fun w hC => calls_in (HLESS.out w) (fun w' hb => hC.next hb)) ?_; (try simp only [Act.put, List.getElem_toArray, List.getElem_cons_succ, List.getElem_cons_zero, List.setIfInBounds_toArray, List.set_cons_zero, List.set_cons_succ]))
            (refine q_val (v := ?_) (by rfl) ?_ ?_; rotate_left; (· (intro w hC; go_simp; try with_reducible rfl)); (try simp only [Act.put, List.getElem_toArray, List.getElem_cons_succ, List.getElem_cons_zero, List.setIfInBounds_toArray, List.set_cons_zero, List.set_cons_succ]))
            refine wpQuiet_nil ?_
            intro w5 hC5
            have S5 := Lib.hid hC5
            clear hC5
            go_upto_region 7 with fail
            have HCF := Lib.hid (show ∀ w', Below w5.heap.size w5 w' → w'.cell? ⟨bf, 2, none⟩ = some (.slice (some ⟨g, 0, none⟩) n cap) from fun w' hb => ((S5.out.kn.at 2 rfl).below hb (S5.out.kn.at 2 rfl).lt).cell 2)
            have HBF := Lib.hid (show ∀ w', Below w5.heap.size w5 w' → Blk w' bf #[.int .i64 mo, .int .i64 li, (.slice (some ⟨g, 0, none⟩) n cap)] 28 from fun w' hb => (S5.out.kn.at 2 rfl).below hb (S5.out.kn.at 2 rfl).lt)
            have HBK := Lib.hid (show ∀ w', Below w5.heap.size w5 w' → Blk w' be (enA x) 38 from fun w' hb => (S5.out.kn.at 1 rfl).below hb (S5.out.kn.at 1 rfl).lt)
            have LF := Lib.hid (show bf < w5.heap.size from (S5.out.kn.at 2 rfl).lt)
            have LT := Lib.hid (show bt < w5.heap.size from (S5.out.kn.at 0 rfl).lt)
            have HS1 := Lib.hid (show ∀ w', Below w5.heap.size w5 w' → Src w' enC (.slice (some ⟨g, 0, none⟩) k cap) (l.take k) from fun w' hb => by
              have o := S5.out.own.next hb
              rw [← HN.out] at o
              exact o.head enC_len (by have := KN.out; have := HN.out; omega))
            have HS2 := Lib.hid (show ∀ w', Below w5.heap.size w5 w' → Src w' enC (.slice (if cap = k then some ⟨g, 0, none⟩ else some ⟨g, k * 9, none⟩) (n - k) (cap - k)) (l.drop k) from fun w' hb => by
              have o := S5.out.own.next hb
              rw [← HN.out] at o ⊢
              exact o.tail enC_len (by have := KN.out; have := HN.out; omega) (by have := HCAP.out; have := HN.out; omega))
            have KC := Lib.hid (show k ≤ cap by have := KN.out; have := HCAP.out; omega)
            have K1 := Lib.hid (show (0 : Int) ≤ (k : Int) by omega)
            have K4 := Lib.hid (show (k : Int) ≤ n by have := KN.out; omega)
            have K5 := Lib.hid (show ((k : Int)).toNat = k by omega)
            have K6 := Lib.hid (show n ≤ cap from HCAP.out.1)
            have HLA := Lib.hid (show (l.take k).length ≤ 1000 by rw [List.length_take]; have := HL.out; have := HN.out; omega)
            have HLB := Lib.hid (show (l.take k).length + (l.drop k).length ≤ 1000 by rw [List.length_take, List.length_drop]; have := HL.out; have := HN.out; omega)
            refine wp_region_inv (I := Put9I g bf be n cap k x _ _ _ _ _ _ _ _ _ _ _ _ _ _ _ _ _ _ _ _ _ _ _ _ _ _ _ _ _ _ _ _ _ w5 l) (by kernel_rfl) (by kernel_rfl) ⟨undef, undef, undef, undef, undef, undef, undef, undef, undef, undef, undef, undef, undef, undef, undef, rfl, ⟨(fun h => Bool.noConfusion h), (fun h => Bool.noConfusion h), (fun h => Bool.noConfusion h), (fun h => Bool.noConfusion h), (fun h => Bool.noConfusion h), (fun h => Bool.noConfusion h), (fun h => Bool.noConfusion h), (fun h => Bool.noConfusion h), (fun h => Bool.noConfusion h), (fun h => Bool.noConfusion h)⟩, ⟨fun _ => InsW.start w5, fun h => Bool.noConfusion h, fun h => Bool.noConfusion h⟩⟩ ?_ ?_
            · intro i hi L a w' hI hL haft
              obtain ⟨v36, v37, v38, v39, v40, v41, v42, v43, v44, v45, v46, v47, v48, v49, v50, rfl, hs, hw⟩ := hI
              match i, hi with
              | 0, _ =>
                have hI := hw.n (hw.no 0 (by decide) hL)
                exact i_val rfl (.slice (some ⟨w'.heap.size, 0, none⟩) 0 0) (w'.alloc (.cells #[] 38)) (by rfl) (by go_simp) ⟨(.slice (some ⟨w'.heap.size, 0, none⟩) 0 0), v37, v38, v39, v40, v41, v42, v43, v44, v45, v46, v47, v48, v49, v50, rfl, { hs with }, hw.step 0 (by decide) hL (hI.make0 hL)⟩
              | 1, _ =>
                have hI := hw.n (hw.no 1 (by decide) hL)
                exact i_val rfl (.pointer (some ⟨bf, 2, none⟩)) w' (by rfl) (by go_simp) ⟨v36, (.pointer (some ⟨bf, 2, none⟩)), v38, v39, v40, v41, v42, v43, v44, v45, v46, v47, v48, v49, v50, rfl, { hs with e37 := fun _ => rfl }, (hw.step 1 (by decide) hL hI)⟩
              | 2, _ =>
                have e37x := hs.e37 (haft 1 (by decide))
                subst e37x
                have hI := hw.n (hw.no 2 (by decide) hL)
                have hc := HCF.out w' hI.below
                exact i_val rfl (.slice (some ⟨g, 0, none⟩) n cap) w' (by rfl) (by go_simp) ⟨v36, (.pointer (some ⟨bf, 2, none⟩)), (.slice (some ⟨g, 0, none⟩) n cap), v39, v40, v41, v42, v43, v44, v45, v46, v47, v48, v49, v50, rfl, { hs with e38 := fun _ => rfl }, (hw.step 2 (by decide) hL hI)⟩
              | 3, _ =>
                have hI := hw.n (hw.no 3 (by decide) hL)
                exact i_val rfl (.int .i64 (k : Nat)) w' (by rfl) (by go_simp) ⟨v36, v37, v38, (.int .i64 (k : Nat)), v40, v41, v42, v43, v44, v45, v46, v47, v48, v49, v50, rfl, { hs with e39 := fun _ => rfl }, (hw.step 3 (by decide) hL hI)⟩
              | 4, _ =>
                have e38x := hs.e38 (haft 2 (by decide))
                subst e38x
                have e39x := hs.e39 (haft 3 (by decide))
                subst e39x
                have hI := hw.n (hw.no 4 (by decide) hL)
                have e := KC.out
                exact i_val rfl (.slice (some ⟨g, 0, none⟩) k cap) w' (by rfl) (by go_simp) ⟨v36, v37, (.slice (some ⟨g, 0, none⟩) n cap), (.int .i64 (k : Nat)), (.slice (some ⟨g, 0, none⟩) k cap), v41, v42, v43, v44, v45, v46, v47, v48, v49, v50, rfl, { hs with e40 := fun _ => rfl }, (hw.step 4 (by decide) hL hI)⟩
              | 5, _ =>
                have e40x := hs.e40 (haft 4 (by decide))
                subst e40x
                have hI := hw.n (hw.no 5 (by decide) hL)
                obtain ⟨u, w2, hrun, hJ⟩ := hI.app4 enE (haft 0 (by decide)) hL (HS1.out w' hI.below) HLA.out 26
                exact i_wp rfl (by rfl) (wp_append_lst _ _ 26 rfl u w2 hrun ⟨v36, v37, v38, v39, (.slice (some ⟨g, 0, none⟩) k cap), u, v42, v43, v44, v45, v46, v47, v48, v49, v50, rfl, { hs with }, hw.step 5 (by decide) hL hJ⟩)
              | 6, _ =>
                have hI := hw.n (hw.no 6 (by decide) hL)
                exact i_val rfl (.agg (enA x)) w' (by rfl) (run_loadVar_of 38 _ rfl be rfl 38 (enA x) _ (HBK.out w' hI.below) Try.underlying38 rfl enSize) ⟨v36, v37, v38, v39, v40, v41, (.agg (enA x)), v43, v44, v45, v46, v47, v48, v49, v50, rfl, { hs with e42 := fun _ => rfl }, (hw.step 6 (by decide) hL hI)⟩
              | 7, _ =>
                have e42x := hs.e42 (haft 6 (by decide))
                subst e42x
                have hI := hw.n (hw.no 7 (by decide) hL)
                exact i_val rfl (.slice (some ⟨w'.heap.size, 0, none⟩) 1 1) (w'.alloc (.cells (enA x) 38)) (by rfl) (by go_simp) ⟨v36, v37, v38, v39, v40, v41, (.agg (enA x)), (.slice (some ⟨w'.heap.size, 0, none⟩) 1 1), v44, v45, v46, v47, v48, v49, v50, rfl, { hs with }, hw.step 7 (by decide) hL (hI.make6 enE hL (enA x) rfl)⟩
              | 8, _ =>
                have hI := hw.n (hw.no 8 (by decide) hL)
                obtain ⟨u, w2, hrun, hJ⟩ := hI.app7 enE (haft 5 (by decide)) (haft 7 (by decide)) hL HLA.out 26
                exact i_wp rfl (by rfl) (wp_append_lst _ _ 26 rfl u w2 hrun ⟨v36, v37, v38, v39, v40, v41, v42, v43, u, v45, v46, v47, v48, v49, v50, rfl, { hs with }, hw.step 8 (by decide) hL hJ⟩)
              | 9, _ =>
                have hI := hw.n (hw.no 9 (by decide) hL)
                exact i_val rfl (.pointer (some ⟨bf, 2, none⟩)) w' (by rfl) (by go_simp) ⟨v36, v37, v38, v39, v40, v41, v42, v43, v44, (.pointer (some ⟨bf, 2, none⟩)), v46, v47, v48, v49, v50, rfl, { hs with e45 := fun _ => rfl }, (hw.step 9 (by decide) hL hI)⟩
              | 10, _ =>
                have e45x := hs.e45 (haft 9 (by decide))
                subst e45x
                have hI := hw.n (hw.no 10 (by decide) hL)
                have hc := HCF.out w' hI.below
                exact i_val rfl (.slice (some ⟨g, 0, none⟩) n cap) w' (by rfl) (by go_simp) ⟨v36, v37, v38, v39, v40, v41, v42, v43, v44, (.pointer (some ⟨bf, 2, none⟩)), (.slice (some ⟨g, 0, none⟩) n cap), v47, v48, v49, v50, rfl, { hs with e46 := fun _ => rfl }, (hw.step 10 (by decide) hL hI)⟩
              | 11, _ =>
                have hI := hw.n (hw.no 11 (by decide) hL)
                exact i_val rfl (.int .i64 (k : Nat)) w' (by rfl) (by go_simp) ⟨v36, v37, v38, v39, v40, v41, v42, v43, v44, v45, v46, (.int .i64 (k : Nat)), v48, v49, v50, rfl, { hs with e47 := fun _ => rfl }, (hw.step 11 (by decide) hL hI)⟩
              | 12, _ =>
                have e46x := hs.e46 (haft 10 (by decide))
                subst e46x
                have e47x := hs.e47 (haft 11 (by decide))
                subst e47x
                have hI := hw.n (hw.no 12 (by decide) hL)
                have e1 := K1.out
                have e2 := K4.out
                have e3 := K5.out
                have e4 := K6.out
                exact i_val rfl (.slice (if cap = k then some ⟨g, 0, none⟩ else some ⟨g, k * 9, none⟩) (n - k) (cap - k)) w' (by rfl) (by go_simp) ⟨v36, v37, v38, v39, v40, v41, v42, v43, v44, v45, (.slice (some ⟨g, 0, none⟩) n cap), (.int .i64 (k : Nat)), (.slice (if cap = k then some ⟨g, 0, none⟩ else some ⟨g, k * 9, none⟩) (n - k) (cap - k)), v49, v50, rfl, { hs with e48 := fun _ => rfl }, (hw.step 12 (by decide) hL hI)⟩
              | 13, _ =>
                have e48x := hs.e48 (haft 12 (by decide))
                subst e48x
                have hI := hw.n (hw.no 13 (by decide) hL)
                obtain ⟨u, w2, hrun, hJ⟩ := hI.app11 enE (haft 8 (by decide)) hL (HS2.out w' hI.below) HLB.out 26
                exact i_wp rfl (by rfl) (wp_append_lst _ _ 26 rfl u w2 hrun ⟨v36, v37, v38, v39, v40, v41, v42, v43, v44, v45, v46, v47, (.slice (if cap = k then some ⟨g, 0, none⟩ else some ⟨g, k * 9, none⟩) (n - k) (cap - k)), u, v50, rfl, { hs with }, hw.step 13 (by decide) hL hJ⟩)
              | 14, _ =>
                have hI := hw.n (hw.no 14 (by decide) hL)
                exact i_val rfl (.pointer (some ⟨bf, 2, none⟩)) w' (by rfl) (by go_simp) ⟨v36, v37, v38, v39, v40, v41, v42, v43, v44, v45, v46, v47, v48, v49, (.pointer (some ⟨bf, 2, none⟩)), rfl, { hs with e50 := fun _ => rfl }, (hw.step 14 (by decide) hL hI)⟩
              | 15, _ =>
                have e50x := hs.e50 (haft 14 (by decide))
                subst e50x
                have hI := hw.n hL
                have hO := hI.p11 (haft 13 (by decide))
                have hbf := HBF.out w' hI.below
                obtain ⟨gg, cc, hv, -⟩ : ∃ gg cc, v49 = .slice (some ⟨gg, 0, none⟩) ((l.take k) ++ [x] ++ (l.drop k)).length cc ∧ True := by
                  rcases hO.cases with ⟨-, q⟩ | ⟨gg, cc, hv, -⟩
                  · simp at q
                  · exact ⟨gg, cc, hv, trivial⟩
                obtain ⟨nn, hnn⟩ : ∃ nn, ((l.take k) ++ [x] ++ (l.drop k)).length = nn := ⟨_, rfl⟩
                rw [hnn] at hv
                subst hv
                exact i_wp rfl (by rfl) (wp_store_cell _ _ _ rfl ⟨bf, 2, none⟩ (.slice (some ⟨gg, 0, none⟩) nn cc) rfl rfl (by have c := hbf.cell 2; simp only [List.getElem?_toArray, List.getElem?_cons_succ, List.getElem?_cons_zero] at c; have fr := hbf.free 2; go_simp) ⟨v36, v37, v38, v39, v40, v41, v42, v43, v44, v45, v46, v47, v48, (.slice (some ⟨gg, 0, none⟩) nn cc), (.pointer (some ⟨bf, 2, none⟩)), rfl, { hs with }, hw.last hL (fun i hi => haft i (by match i, hi with | 0, _ => decide | 1, _ => decide | 2, _ => decide | 3, _ => decide | 4, _ => decide | 5, _ => decide | 6, _ => decide | 7, _ => decide | 8, _ => decide | 9, _ => decide | 10, _ => decide | 11, _ => decide | 12, _ => decide | 13, _ => decide | 14, _ => decide | k + 15, h => (exfalso; have h2 : k + 15 < 15 := h; omega))) id⟩)
              | k + 16, h =>
                exfalso
                have h2 : k + 16 < 16 := h
                omega
            intro L a w3 hI hall
            obtain ⟨v36, v37, v38, v39, v40, v41, v42, v43, v44, v45, v46, v47, v48, v49, v50, rfl, hs, hw⟩ := hI
            obtain ⟨W, hW, rfl⟩ := hw.y (hall 15 (by decide))
            have O6 := Lib.hid (hW.p11 (hall 13 (by decide)))
            have B6 := Lib.hid hW.below
            have hkn := S5.out.kn.next hW.below
            have HQ := Lib.hid (show ∀ q, v49.ownBlock = some q → w5.heap.size ≤ q from fun q hq => (O6.out.lt q hq).1)
            have O7 := Lib.hid (O6.out.setCell (a := ⟨bf, 2, none⟩) (fun q => by have := HQ.out bf q; have := LF.out; omega) v49)
            have hbf2 : Blk (W.setCell ⟨bf, 2, none⟩ v49) bf #[.int .i64 mo, .int .i64 li, v49] 28 := (hkn.at 2 rfl).set 2 v49
            have hbt2 : Blk (W.setCell ⟨bf, 2, none⟩ v49) bt #[.int .i64 0, .int .i64 0, .slice none 0 0] 28 := (hkn.at 0 rfl).other (a := ⟨bf, 2, none⟩) (by have := HNE.out; simpa using this) v49
            have B7 := Lib.hid (hkn.below.setCell (show w.heap.size ≤ (⟨bf, 2, none⟩ : Addr).block from HBF0.out) v49)
            clear hs hw hall hW hkn
            generalize W.setCell ⟨bf, 2, none⟩ v49 = W7 at *
            have HF2 := Lib.hid hbf2
            have HT2 := Lib.hid hbt2
            clear hbf2 hbt2
            go_wp2_with (first
              | (refine wpList_load_row rfl 28 _ rfl bf rfl 28 #[.int .i64 mo, .int .i64 li, v49] (0, 0) _ HF2.out Try.underlying28 rfl fdSize ?_)
              | (refine wpList_store_row rfl 28 _ _ rfl bt #[.int .i64 mo, .int .i64 li, v49] rfl rfl 28 #[.int .i64 0, .int .i64 0, .slice none 0 0] HT2.out fdSize rfl (fd_one mo li O6.out) ?_))
            exact bodyPost_ret (v := .agg #[.int .i64 mo, .int .i64 li, v49]) (results_cell_row Try.results42 _ _ bt 28 #[.int .i64 mo, .int .i64 li, v49] (0, 0) _ rfl (HT2.out.row _) Try.underlying28 rfl fdSize) rfl ⟨v49, rfl, by rw [RL.out]; exact (Own.setRow (O7.out.mono (Nat.le_trans HBASE.out S5.out.kn.below.size)) (fun q => by have := HQ.out bt q; have := LT.out; omega) _), below_setRow B7.out HBT0.out _⟩
          · have hjn' : ¬ (k : Int) < n := by omega
            clear hlt hj hjn
            go_upto_region 5 with fail
            refine wp_region_quiet (C := P9 w bf be bt mo li (.slice (some ⟨g, 0, none⟩) n cap) x l) (by kernel_rfl) (by kernel_rfl) hS.out.drew ?_
            (refine q_val (v := ?_) (by rfl) ?_ ?_; rotate_left; (· (intro w hC; go_simp; try with_reducible rfl)); (try simp only [Act.put, List.getElem_toArray, List.getElem_cons_succ, List.getElem_cons_zero, List.setIfInBounds_toArray, List.set_cons_zero, List.set_cons_succ]))
            (refine q_val (v := ?_) (by rfl) ?_ ?_; rotate_left; (· (intro w hC; go_simp; try with_reducible rfl)); (try simp only [Act.put, List.getElem_toArray, List.getElem_cons_succ, List.getElem_cons_zero, List.setIfInBounds_toArray, List.set_cons_zero, List.set_cons_succ]))
            (refine q_val (v := ?_) (by rfl) ?_ ?_; rotate_left; (· (intro w hC; have q := (hC.kn.at 2 rfl).cell 2; simp only [List.getElem?_toArray, List.getElem?_cons_succ, List.getElem?_cons_zero] at q; go_simp; try with_reducible rfl)); (try simp only [Act.put, List.getElem_toArray, List.getElem_cons_succ, List.getElem_cons_zero, List.setIfInBounds_toArray, List.set_cons_zero, List.set_cons_succ]))
            (refine q_val (v := ?_) (by rfl) ?_ ?_; rotate_left; (· (intro w hC; go_simp; try with_reducible rfl)); (try simp only [Act.put, List.getElem_toArray, List.getElem_cons_succ, List.getElem_cons_zero, List.setIfInBounds_toArray, List.set_cons_zero, List.set_cons_succ]))
            (refine q_val (v := ?_) (by rfl) ?_ ?_; rotate_left; (· (intro w hC; go_simp; try with_reducible rfl)); (try simp only [Act.put, List.getElem_toArray, List.getElem_cons_succ, List.getElem_cons_zero, List.setIfInBounds_toArray, List.set_cons_zero, List.set_cons_succ]))
            (refine q_val (v := ?_) (by rfl) ?_ ?_; rotate_left; (· (intro w hC; go_simp; try with_reducible rfl)); (try simp only [Act.put, List.getElem_toArray, List.getElem_cons_succ, List.getElem_cons_zero, List.setIfInBounds_toArray, List.set_cons_zero, List.set_cons_succ]))
            (refine q_skip (by rfl) ?_; (try simp only [Act.put, List.getElem_toArray, List.getElem_cons_succ, List.getElem_cons_zero, List.setIfInBounds_toArray, List.set_cons_zero, List.set_cons_succ]))
            (refine q_skip (by rfl) ?_; (try simp only [Act.put, List.getElem_toArray, List.getElem_cons_succ, List.getElem_cons_zero, List.setIfInBounds_toArray, List.set_cons_zero, List.set_cons_succ]))
            (refine q_skip (by rfl) ?_; (try simp only [Act.put, List.getElem_toArray, List.getElem_cons_succ, List.getElem_cons_zero, List.setIfInBounds_toArray, List.set_cons_zero, List.set_cons_succ]))
            (refine q_skip (by rfl) ?_; (try simp only [Act.put, List.getElem_toArray, List.getElem_cons_succ, List.getElem_cons_zero, List.setIfInBounds_toArray, List.set_cons_zero, List.set_cons_succ]))
            (refine q_skip (by rfl) ?_; (try simp only [Act.put, List.getElem_toArray, List.getElem_cons_succ, List.getElem_cons_zero, List.setIfInBounds_toArray, List.set_cons_zero, List.set_cons_succ]))
            (refine q_skip (by rfl) ?_; (try simp only [Act.put, List.getElem_toArray, List.getElem_cons_succ, List.getElem_cons_zero, List.setIfInBounds_toArray, List.set_cons_zero, List.set_cons_succ]))
            (refine q_skip (by rfl) ?_; (try simp only [Act.put, List.getElem_toArray, List.getElem_cons_succ, List.getElem_cons_zero, List.setIfInBounds_toArray, List.set_cons_zero, List.set_cons_succ]))
            (refine q_val (v := ?_) (by rfl) ?_ ?_; rotate_left; (· (intro w hC; go_simp; try with_reducible rfl)); (try simp only [Act.put, List.getElem_toArray, List.getElem_cons_succ, List.getElem_cons_zero, List.setIfInBounds_toArray, List.set_cons_zero, List.set_cons_succ]))
            refine wpQuiet_nil ?_
            intro w5 hC5
            have S5 := Lib.hid hC5
            clear hC5
            go_upto_region 7 with fail
            have HCF := Lib.hid (show ∀ w', Below w5.heap.size w5 w' → w'.cell? ⟨bf, 2, none⟩ = some (.slice (some ⟨g, 0, none⟩) n cap) from fun w' hb => ((S5.out.kn.at 2 rfl).below hb (S5.out.kn.at 2 rfl).lt).cell 2)
            have HBF := Lib.hid (show ∀ w', Below w5.heap.size w5 w' → Blk w' bf #[.int .i64 mo, .int .i64 li, (.slice (some ⟨g, 0, none⟩) n cap)] 28 from fun w' hb => (S5.out.kn.at 2 rfl).below hb (S5.out.kn.at 2 rfl).lt)
            have HBK := Lib.hid (show ∀ w', Below w5.heap.size w5 w' → Blk w' be (enA x) 38 from fun w' hb => (S5.out.kn.at 1 rfl).below hb (S5.out.kn.at 1 rfl).lt)
            have LF := Lib.hid (show bf < w5.heap.size from (S5.out.kn.at 2 rfl).lt)
            have LT := Lib.hid (show bt < w5.heap.size from (S5.out.kn.at 0 rfl).lt)
            have HS1 := Lib.hid (show ∀ w', Below w5.heap.size w5 w' → Src w' enC (.slice (some ⟨g, 0, none⟩) k cap) (l.take k) from fun w' hb => by
              have o := S5.out.own.next hb
              rw [← HN.out] at o
              exact o.head enC_len (by have := KN.out; have := HN.out; omega))
            have HS2 := Lib.hid (show ∀ w', Below w5.heap.size w5 w' → Src w' enC (.slice (if cap = k then some ⟨g, 0, none⟩ else some ⟨g, k * 9, none⟩) (n - k) (cap - k)) (l.drop k) from fun w' hb => by
              have o := S5.out.own.next hb
              rw [← HN.out] at o ⊢
              exact o.tail enC_len (by have := KN.out; have := HN.out; omega) (by have := HCAP.out; have := HN.out; omega))
            have KC := Lib.hid (show k ≤ cap by have := KN.out; have := HCAP.out; omega)
            have K1 := Lib.hid (show (0 : Int) ≤ (k : Int) by omega)
            have K4 := Lib.hid (show (k : Int) ≤ n by have := KN.out; omega)
            have K5 := Lib.hid (show ((k : Int)).toNat = k by omega)
            have K6 := Lib.hid (show n ≤ cap from HCAP.out.1)
            have HLA := Lib.hid (show (l.take k).length ≤ 1000 by rw [List.length_take]; have := HL.out; have := HN.out; omega)
            have HLB := Lib.hid (show (l.take k).length + (l.drop k).length ≤ 1000 by rw [List.length_take, List.length_drop]; have := HL.out; have := HN.out; omega)
            refine wp_region_inv (I := Put9I g bf be n cap k x _ _ _ _ _ _ _ _ _ _ _ _ _ _ _ _ _ _ _ _ _ _ _ _ _ _ _ _ _ _ _ _ _ w5 l) (by kernel_rfl) (by kernel_rfl) ⟨undef, undef, undef, undef, undef, undef, undef, undef, undef, undef, undef, undef, undef, undef, undef, rfl, ⟨(fun h => Bool.noConfusion h), (fun h => Bool.noConfusion h), (fun h => Bool.noConfusion h), (fun h => Bool.noConfusion h), (fun h => Bool.noConfusion h), (fun h => Bool.noConfusion h), (fun h => Bool.noConfusion h), (fun h => Bool.noConfusion h), (fun h => Bool.noConfusion h), (fun h => Bool.noConfusion h)⟩, ⟨fun _ => InsW.start w5, fun h => Bool.noConfusion h, fun h => Bool.noConfusion h⟩⟩ ?_ ?_
            · intro i hi L a w' hI hL haft
              obtain ⟨v36, v37, v38, v39, v40, v41, v42, v43, v44, v45, v46, v47, v48, v49, v50, rfl, hs, hw⟩ := hI
              match i, hi with
              | 0, _ =>
                have hI := hw.n (hw.no 0 (by decide) hL)
                exact i_val rfl (.slice (some ⟨w'.heap.size, 0, none⟩) 0 0) (w'.alloc (.cells #[] 38)) (by rfl) (by go_simp) ⟨(.slice (some ⟨w'.heap.size, 0, none⟩) 0 0), v37, v38, v39, v40, v41, v42, v43, v44, v45, v46, v47, v48, v49, v50, rfl, { hs with }, hw.step 0 (by decide) hL (hI.make0 hL)⟩
              | 1, _ =>
                have hI := hw.n (hw.no 1 (by decide) hL)
                exact i_val rfl (.pointer (some ⟨bf, 2, none⟩)) w' (by rfl) (by go_simp) ⟨v36, (.pointer (some ⟨bf, 2, none⟩)), v38, v39, v40, v41, v42, v43, v44, v45, v46, v47, v48, v49, v50, rfl, { hs with e37 := fun _ => rfl }, (hw.step 1 (by decide) hL hI)⟩
              | 2, _ =>
                have e37x := hs.e37 (haft 1 (by decide))
                subst e37x
                have hI := hw.n (hw.no 2 (by decide) hL)
                have hc := HCF.out w' hI.below
                exact i_val rfl (.slice (some ⟨g, 0, none⟩) n cap) w' (by rfl) (by go_simp) ⟨v36, (.pointer (some ⟨bf, 2, none⟩)), (.slice (some ⟨g, 0, none⟩) n cap), v39, v40, v41, v42, v43, v44, v45, v46, v47, v48, v49, v50, rfl, { hs with e38 := fun _ => rfl }, (hw.step 2 (by decide) hL hI)⟩
              | 3, _ =>
                have hI := hw.n (hw.no 3 (by decide) hL)
                exact i_val rfl (.int .i64 (k : Nat)) w' (by rfl) (by go_simp) ⟨v36, v37, v38, (.int .i64 (k : Nat)), v40, v41, v42, v43, v44, v45, v46, v47, v48, v49, v50, rfl, { hs with e39 := fun _ => rfl }, (hw.step 3 (by decide) hL hI)⟩
              | 4, _ =>
                have e38x := hs.e38 (haft 2 (by decide))
                subst e38x
                have e39x := hs.e39 (haft 3 (by decide))
                subst e39x
                have hI := hw.n (hw.no 4 (by decide) hL)
                have e := KC.out
                exact i_val rfl (.slice (some ⟨g, 0, none⟩) k cap) w' (by rfl) (by go_simp) ⟨v36, v37, (.slice (some ⟨g, 0, none⟩) n cap), (.int .i64 (k : Nat)), (.slice (some ⟨g, 0, none⟩) k cap), v41, v42, v43, v44, v45, v46, v47, v48, v49, v50, rfl, { hs with e40 := fun _ => rfl }, (hw.step 4 (by decide) hL hI)⟩
              | 5, _ =>
                have e40x := hs.e40 (haft 4 (by decide))
                subst e40x
                have hI := hw.n (hw.no 5 (by decide) hL)
                obtain ⟨u, w2, hrun, hJ⟩ := hI.app4 enE (haft 0 (by decide)) hL (HS1.out w' hI.below) HLA.out 26
                exact i_wp rfl (by rfl) (wp_append_lst _ _ 26 rfl u w2 hrun ⟨v36, v37, v38, v39, (.slice (some ⟨g, 0, none⟩) k cap), u, v42, v43, v44, v45, v46, v47, v48, v49, v50, rfl, { hs with }, hw.step 5 (by decide) hL hJ⟩)
              | 6, _ =>
                have hI := hw.n (hw.no 6 (by decide) hL)
                exact i_val rfl (.agg (enA x)) w' (by rfl) (run_loadVar_of 38 _ rfl be rfl 38 (enA x) _ (HBK.out w' hI.below) Try.underlying38 rfl enSize) ⟨v36, v37, v38, v39, v40, v41, (.agg (enA x)), v43, v44, v45, v46, v47, v48, v49, v50, rfl, { hs with e42 := fun _ => rfl }, (hw.step 6 (by decide) hL hI)⟩
              | 7, _ =>
                have e42x := hs.e42 (haft 6 (by decide))
                subst e42x
                have hI := hw.n (hw.no 7 (by decide) hL)
                exact i_val rfl (.slice (some ⟨w'.heap.size, 0, none⟩) 1 1) (w'.alloc (.cells (enA x) 38)) (by rfl) (by go_simp) ⟨v36, v37, v38, v39, v40, v41, (.agg (enA x)), (.slice (some ⟨w'.heap.size, 0, none⟩) 1 1), v44, v45, v46, v47, v48, v49, v50, rfl, { hs with }, hw.step 7 (by decide) hL (hI.make6 enE hL (enA x) rfl)⟩
              | 8, _ =>
                have hI := hw.n (hw.no 8 (by decide) hL)
                obtain ⟨u, w2, hrun, hJ⟩ := hI.app7 enE (haft 5 (by decide)) (haft 7 (by decide)) hL HLA.out 26
                exact i_wp rfl (by rfl) (wp_append_lst _ _ 26 rfl u w2 hrun ⟨v36, v37, v38, v39, v40, v41, v42, v43, u, v45, v46, v47, v48, v49, v50, rfl, { hs with }, hw.step 8 (by decide) hL hJ⟩)
              | 9, _ =>
                have hI := hw.n (hw.no 9 (by decide) hL)
                exact i_val rfl (.pointer (some ⟨bf, 2, none⟩)) w' (by rfl) (by go_simp) ⟨v36, v37, v38, v39, v40, v41, v42, v43, v44, (.pointer (some ⟨bf, 2, none⟩)), v46, v47, v48, v49, v50, rfl, { hs with e45 := fun _ => rfl }, (hw.step 9 (by decide) hL hI)⟩
              | 10, _ =>
                have e45x := hs.e45 (haft 9 (by decide))
                subst e45x
                have hI := hw.n (hw.no 10 (by decide) hL)
                have hc := HCF.out w' hI.below
                exact i_val rfl (.slice (some ⟨g, 0, none⟩) n cap) w' (by rfl) (by go_simp) ⟨v36, v37, v38, v39, v40, v41, v42, v43, v44, (.pointer (some ⟨bf, 2, none⟩)), (.slice (some ⟨g, 0, none⟩) n cap), v47, v48, v49, v50, rfl, { hs with e46 := fun _ => rfl }, (hw.step 10 (by decide) hL hI)⟩
              | 11, _ =>
                have hI := hw.n (hw.no 11 (by decide) hL)
                exact i_val rfl (.int .i64 (k : Nat)) w' (by rfl) (by go_simp) ⟨v36, v37, v38, v39, v40, v41, v42, v43, v44, v45, v46, (.int .i64 (k : Nat)), v48, v49, v50, rfl, { hs with e47 := fun _ => rfl }, (hw.step 11 (by decide) hL hI)⟩
              | 12, _ =>
                have e46x := hs.e46 (haft 10 (by decide))
                subst e46x
                have e47x := hs.e47 (haft 11 (by decide))
                subst e47x
                have hI := hw.n (hw.no 12 (by decide) hL)
                have e1 := K1.out
                have e2 := K4.out
                have e3 := K5.out
                have e4 := K6.out
                exact i_val rfl (.slice (if cap = k then some ⟨g, 0, none⟩ else some ⟨g, k * 9, none⟩) (n - k) (cap - k)) w' (by rfl) (by go_simp) ⟨v36, v37, v38, v39, v40, v41, v42, v43, v44, v45, (.slice (some ⟨g, 0, none⟩) n cap), (.int .i64 (k : Nat)), (.slice (if cap = k then some ⟨g, 0, none⟩ else some ⟨g, k * 9, none⟩) (n - k) (cap - k)), v49, v50, rfl, { hs with e48 := fun _ => rfl }, (hw.step 12 (by decide) hL hI)⟩
              | 13, _ =>
                have e48x := hs.e48 (haft 12 (by decide))
                subst e48x
                have hI := hw.n (hw.no 13 (by decide) hL)
                obtain ⟨u, w2, hrun, hJ⟩ := hI.app11 enE (haft 8 (by decide)) hL (HS2.out w' hI.below) HLB.out 26
                exact i_wp rfl (by rfl) (wp_append_lst _ _ 26 rfl u w2 hrun ⟨v36, v37, v38, v39, v40, v41, v42, v43, v44, v45, v46, v47, (.slice (if cap = k then some ⟨g, 0, none⟩ else some ⟨g, k * 9, none⟩) (n - k) (cap - k)), u, v50, rfl, { hs with }, hw.step 13 (by decide) hL hJ⟩)
              | 14, _ =>
                have hI := hw.n (hw.no 14 (by decide) hL)
                exact i_val rfl (.pointer (some ⟨bf, 2, none⟩)) w' (by rfl) (by go_simp) ⟨v36, v37, v38, v39, v40, v41, v42, v43, v44, v45, v46, v47, v48, v49, (.pointer (some ⟨bf, 2, none⟩)), rfl, { hs with e50 := fun _ => rfl }, (hw.step 14 (by decide) hL hI)⟩
              | 15, _ =>
                have e50x := hs.e50 (haft 14 (by decide))
                subst e50x
                have hI := hw.n hL
                have hO := hI.p11 (haft 13 (by decide))
                have hbf := HBF.out w' hI.below
                obtain ⟨gg, cc, hv, -⟩ : ∃ gg cc, v49 = .slice (some ⟨gg, 0, none⟩) ((l.take k) ++ [x] ++ (l.drop k)).length cc ∧ True := by
                  rcases hO.cases with ⟨-, q⟩ | ⟨gg, cc, hv, -⟩
                  · simp at q
                  · exact ⟨gg, cc, hv, trivial⟩
                obtain ⟨nn, hnn⟩ : ∃ nn, ((l.take k) ++ [x] ++ (l.drop k)).length = nn := ⟨_, rfl⟩
                rw [hnn] at hv
                subst hv
                exact i_wp rfl (by rfl) (wp_store_cell _ _ _ rfl ⟨bf, 2, none⟩ (.slice (some ⟨gg, 0, none⟩) nn cc) rfl rfl (by have c := hbf.cell 2; simp only [List.getElem?_toArray, List.getElem?_cons_succ, List.getElem?_cons_zero] at c; have fr := hbf.free 2; go_simp) ⟨v36, v37, v38, v39, v40, v41, v42, v43, v44, v45, v46, v47, v48, (.slice (some ⟨gg, 0, none⟩) nn cc), (.pointer (some ⟨bf, 2, none⟩)), rfl, { hs with }, hw.last hL (fun i hi => haft i (by match i, hi with | 0, _ => decide | 1, _ => decide | 2, _ => decide | 3, _ => decide | 4, _ => decide | 5, _ => decide | 6, _ => decide | 7, _ => decide | 8, _ => decide | 9, _ => decide | 10, _ => decide | 11, _ => decide | 12, _ => decide | 13, _ => decide | 14, _ => decide | k + 15, h => (exfalso; have h2 : k + 15 < 15 := h; omega))) id⟩)
              | k + 16, h =>
                exfalso
                have h2 : k + 16 < 16 := h
                omega
            intro L a w3 hI hall
            obtain ⟨v36, v37, v38, v39, v40, v41, v42, v43, v44, v45, v46, v47, v48, v49, v50, rfl, hs, hw⟩ := hI
            obtain ⟨W, hW, rfl⟩ := hw.y (hall 15 (by decide))
            have O6 := Lib.hid (hW.p11 (hall 13 (by decide)))
            have B6 := Lib.hid hW.below
            have hkn := S5.out.kn.next hW.below
            have HQ := Lib.hid (show ∀ q, v49.ownBlock = some q → w5.heap.size ≤ q from fun q hq => (O6.out.lt q hq).1)
            have O7 := Lib.hid (O6.out.setCell (a := ⟨bf, 2, none⟩) (fun q => by have := HQ.out bf q; have := LF.out; omega) v49)
            have hbf2 : Blk (W.setCell ⟨bf, 2, none⟩ v49) bf #[.int .i64 mo, .int .i64 li, v49] 28 := (hkn.at 2 rfl).set 2 v49
            have hbt2 : Blk (W.setCell ⟨bf, 2, none⟩ v49) bt #[.int .i64 0, .int .i64 0, .slice none 0 0] 28 := (hkn.at 0 rfl).other (a := ⟨bf, 2, none⟩) (by have := HNE.out; simpa using this) v49
            have B7 := Lib.hid (hkn.below.setCell (show w.heap.size ≤ (⟨bf, 2, none⟩ : Addr).block from HBF0.out) v49)
            clear hs hw hall hW hkn
            generalize W.setCell ⟨bf, 2, none⟩ v49 = W7 at *
            have HF2 := Lib.hid hbf2
            have HT2 := Lib.hid hbt2
            clear hbf2 hbt2
            go_wp2_with (first
              | (refine wpList_load_row rfl 28 _ rfl bf rfl 28 #[.int .i64 mo, .int .i64 li, v49] (0, 0) _ HF2.out Try.underlying28 rfl fdSize ?_)
              | (refine wpList_store_row rfl 28 _ _ rfl bt #[.int .i64 mo, .int .i64 li, v49] rfl rfl 28 #[.int .i64 0, .int .i64 0, .slice none 0 0] HT2.out fdSize rfl (fd_one mo li O6.out) ?_))
            exact bodyPost_ret (v := .agg #[.int .i64 mo, .int .i64 li, v49]) (results_cell_row Try.results42 _ _ bt 28 #[.int .i64 mo, .int .i64 li, v49] (0, 0) _ rfl (HT2.out.row _) Try.underlying28 rfl fdSize) rfl ⟨v49, rfl, by rw [RL.out]; exact (Own.setRow (O7.out.mono (Nat.le_trans HBASE.out S5.out.kn.below.size)) (fun q => by have := HQ.out bt q; have := LT.out; omega) _), below_setRow B7.out HBT0.out _⟩

  · have hk0 := (List.getElem?_eq_some_iff.1 g2).1
    rw [g1] at HAT
    rcases S1.out.own.cases with ⟨-, q⟩ | ⟨g0, cap0, hv0, -, -, hcap0⟩
    · rw [q] at hk0; simp at hk0
    subst hv0
    obtain ⟨n0, hn0⟩ : ∃ n0, l0.length = n0 := ⟨_, rfl⟩
    have HN0 := Lib.hid hn0
    have H16 := Lib.hid hk0
    have HC0 := Lib.hid hcap0
    have hn0k : (k0 : Int) < n0 := by omega
    go_upto_region 2 with (first
      | (refine wpList_load_row rfl 28 _ rfl bf rfl 28 fa (0, 0) _ HFB.out Try.underlying28 rfl HFZ.out ?_)
      | (go_at_call 19; refine HAT.out.mono ?_; rintro e w2 ⟨rfl, hb2⟩))
    have S2 := Lib.hid (S1.out.next hb2)
    have HWO := Lib.hid (rwithout9 0 g0 cap0 k0 l0 w2 S2.out.own HC0.out (by have := HL00.out; omega) H16.out)
    have cF2 := (S2.out.kn.at 2 rfl).cell 2
    simp only [List.getElem?_toArray, List.getElem?_cons_succ, List.getElem?_cons_zero] at cF2
    clear cE0 cE1 cE2 cE3 cE4 cE5 cE6 hb2 S1 HAT HFB HFZ HFA hk0 hcap0
    go_upto_region 4 with (first
      | (go_at_call 46; rw [← hn0]; refine HWO.out.mono ?_; rintro e w3 ⟨v3, rfl, ho3, hb3⟩
         have S3 := Lib.hid (S2.out.next hb3)
         have HO3 := Lib.hid ho3
         have c3 := (S3.out.kn.at 2 rfl).cell 2
         simp only [List.getElem?_toArray, List.getElem?_cons_succ, List.getElem?_cons_zero] at c3
         have fr3 := (S3.out.kn.at 2 rfl).free 2
         have HST := Lib.hid (show (Instr.storeAt 26 (.pointer (some ⟨bf, 2, none⟩)) v3).run Try.prog w3 = .ok () (w3.setCell ⟨bf, 2, none⟩ v3) by
           rcases ho3.cases with ⟨hv, -⟩ | ⟨g3, q3, hv, -⟩
           · rw [hv]
             go_simp
           · obtain ⟨nn, hnn⟩ : ∃ nn, (l0.eraseIdx k0).length = nn := ⟨_, rfl⟩
             rw [hv, hnn]
             go_simp)
         have HW2 := Lib.hid (show ∀ q, v3.ownBlock = some q → w2.heap.size ≤ q from fun q hq => (ho3.lt q hq).1)
         clear ho3 hb3 cF2)
      | (refine wpList_plain rfl fun _ hK => wp_store_cell 26 _ _ rfl ⟨bf, 2, none⟩ v3 rfl rfl HST.out (hK _ _ ?_)))
    obtain ⟨l, hll⟩ : ∃ l, l = l0.eraseIdx k0 := ⟨_, rfl⟩
    have HL4 := Lib.hid (show l = cutK enK (enK x) l0 by rw [hll]; unfold cutK; rw [g1, if_neg (by omega)]; rfl)
    have LF2 := Lib.hid (show bf < w2.heap.size from (S2.out.kn.at 2 rfl).lt)
    have S4 := Lib.hid (show P9 w bf be bt mo li v3 x l (w3.setCell ⟨bf, 2, none⟩ v3) from ⟨⟨fun z hz => by
      simp only [List.mem_cons, List.not_mem_nil, or_false] at hz
      rcases hz with rfl | rfl | rfl
      · exact (S3.out.kn.at 0 rfl).other (a := ⟨bf, 2, none⟩) (by have := HNE.out; simpa using this) v3
      · exact (S3.out.kn.at 1 rfl).other (a := ⟨bf, 2, none⟩) (by have := HNE2.out; simpa using this) v3
      · exact (S3.out.kn.at 2 rfl).set 2 v3, S3.out.kn.below.setCell (show w.heap.size ≤ (⟨bf, 2, none⟩ : Addr).block from HBF0.out) v3⟩, by
      rw [hll]
      exact (HO3.out.setCell (a := ⟨bf, 2, none⟩) (fun q => by have := HW2.out bf q; have := LF2.out; omega) v3).mono (Nat.zero_le _)⟩)
    have HOK := Lib.hid (show ∀ y ∈ l, enOk y by rw [hll]; exact fun y hy => HOK0.out y ((List.eraseIdx_sublist _ _).mem hy))
    have HL := Lib.hid (show l.length ≤ 100 by rw [hll]; exact Nat.le_trans (List.length_eraseIdx_le _ _) HL00.out)
    generalize w3.setCell ⟨bf, 2, none⟩ v3 = w4 at *
    clear S2 S3 HO3 HST HW2 HWO c3 fr3 hll g1 g2 g3 hn0 hn0k hone
    rcases S4.out.own.cases with ⟨hsv, hl0⟩ | ⟨g, cap, hsv, -, -, hcap⟩
    · subst hsv
      have HL0 := Lib.hid hl0
      clear hl0
      have hS := S4
      have RL := Lib.hid (show putEn l0 x = [] ++ [x] ++ [] by unfold putEn layK; rw [← HL4.out, HL0.out]; rfl)
      go_upto_region 5 with fail
      refine wp_loop_rounds 1 ?_
      rw [rounds_succ]
      go_upto_region 5 with fail
      refine wp_region_quiet (C := P9 w bf be bt mo li (.slice none 0 0) x l) (by kernel_rfl) (by kernel_rfl) hS.out.drew ?_
      (refine q_val (v := ?_) (by rfl) ?_ ?_; rotate_left; (· (intro w hC; go_simp; try with_reducible rfl)); (try simp only [Act.put, List.getElem_toArray, List.getElem_cons_succ, List.getElem_cons_zero, List.setIfInBounds_toArray, List.set_cons_zero, List.set_cons_succ]))
      (refine q_val (v := ?_) (by rfl) ?_ ?_; rotate_left; (· (intro w hC; go_simp; try with_reducible rfl)); (try simp only [Act.put, List.getElem_toArray, List.getElem_cons_succ, List.getElem_cons_zero, List.setIfInBounds_toArray, List.set_cons_zero, List.set_cons_succ]))
      (refine q_val (v := ?_) (by rfl) ?_ ?_; rotate_left; (· (intro w hC; have q := (hC.kn.at 2 rfl).cell 2; simp only [List.getElem?_toArray, List.getElem?_cons_succ, List.getElem?_cons_zero] at q; go_simp; try with_reducible rfl)); (try simp only [Act.put, List.getElem_toArray, List.getElem_cons_succ, List.getElem_cons_zero, List.setIfInBounds_toArray, List.set_cons_zero, List.set_cons_succ]))
      (refine q_val (v := ?_) (by rfl) ?_ ?_; rotate_left; (· (intro w hC; go_simp; try with_reducible rfl)); (try simp only [Act.put, List.getElem_toArray, List.getElem_cons_succ, List.getElem_cons_zero, List.setIfInBounds_toArray, List.set_cons_zero, List.set_cons_succ]))
      (refine q_val (v := ?_) (by rfl) ?_ ?_; rotate_left; (· (intro w hC; go_simp; try with_reducible rfl)); (try simp only [Act.put, List.getElem_toArray, List.getElem_cons_succ, List.getElem_cons_zero, List.setIfInBounds_toArray, List.set_cons_zero, List.set_cons_succ]))
      (refine q_val (v := ?_) (by rfl) ?_ ?_; rotate_left; (· (intro w hC; go_simp; try with_reducible rfl)); (try simp only [Act.put, List.getElem_toArray, List.getElem_cons_succ, List.getElem_cons_zero, List.setIfInBounds_toArray, List.set_cons_zero, List.set_cons_succ]))
      (refine q_skip (by rfl) ?_; (try simp only [Act.put, List.getElem_toArray, List.getElem_cons_succ, List.getElem_cons_zero, List.setIfInBounds_toArray, List.set_cons_zero, List.set_cons_succ]))
      (refine q_skip (by rfl) ?_; (try simp only [Act.put, List.getElem_toArray, List.getElem_cons_succ, List.getElem_cons_zero, List.setIfInBounds_toArray, List.set_cons_zero, List.set_cons_succ]))
      (refine q_skip (by rfl) ?_; (try simp only [Act.put, List.getElem_toArray, List.getElem_cons_succ, List.getElem_cons_zero, List.setIfInBounds_toArray, List.set_cons_zero, List.set_cons_succ]))
      (refine q_skip (by rfl) ?_; (try simp only [Act.put, List.getElem_toArray, List.getElem_cons_succ, List.getElem_cons_zero, List.setIfInBounds_toArray, List.set_cons_zero, List.set_cons_succ]))
      (refine q_skip (by rfl) ?_; (try simp only [Act.put, List.getElem_toArray, List.getElem_cons_succ, List.getElem_cons_zero, List.setIfInBounds_toArray, List.set_cons_zero, List.set_cons_succ]))
      (refine q_skip (by rfl) ?_; (try simp only [Act.put, List.getElem_toArray, List.getElem_cons_succ, List.getElem_cons_zero, List.setIfInBounds_toArray, List.set_cons_zero, List.set_cons_succ]))
      (refine q_skip (by rfl) ?_; (try simp only [Act.put, List.getElem_toArray, List.getElem_cons_succ, List.getElem_cons_zero, List.setIfInBounds_toArray, List.set_cons_zero, List.set_cons_succ]))
      (refine q_val (v := ?_) (by rfl) ?_ ?_; rotate_left; (· (intro w hC; go_simp; try with_reducible rfl)); (try simp only [Act.put, List.getElem_toArray, List.getElem_cons_succ, List.getElem_cons_zero, List.setIfInBounds_toArray, List.set_cons_zero, List.set_cons_succ]))
      refine wpQuiet_nil ?_
      intro w5 hC5
      have S5 := Lib.hid hC5
      clear hC5
      go_upto_region 7 with fail
      have HCF := Lib.hid (show ∀ w', Below w5.heap.size w5 w' → w'.cell? ⟨bf, 2, none⟩ = some (.slice none 0 0) from fun w' hb => ((S5.out.kn.at 2 rfl).below hb (S5.out.kn.at 2 rfl).lt).cell 2)
      have HBF := Lib.hid (show ∀ w', Below w5.heap.size w5 w' → Blk w' bf #[.int .i64 mo, .int .i64 li, (.slice none 0 0)] 28 from fun w' hb => (S5.out.kn.at 2 rfl).below hb (S5.out.kn.at 2 rfl).lt)
      have HBK := Lib.hid (show ∀ w', Below w5.heap.size w5 w' → Blk w' be (enA x) 38 from fun w' hb => (S5.out.kn.at 1 rfl).below hb (S5.out.kn.at 1 rfl).lt)
      have LF := Lib.hid (show bf < w5.heap.size from (S5.out.kn.at 2 rfl).lt)
      have LT := Lib.hid (show bt < w5.heap.size from (S5.out.kn.at 0 rfl).lt)
      have HS1 := Lib.hid (show ∀ w', Below w5.heap.size w5 w' → Src w' enC (.slice none 0 0) ([] : List En) from fun w' hb => .inl ⟨rfl, rfl⟩)
      have HS2 := Lib.hid (show ∀ w', Below w5.heap.size w5 w' → Src w' enC (.slice none 0 0) ([] : List En) from fun w' hb => .inl ⟨rfl, rfl⟩)
      have HLA := Lib.hid (show ([] : List En).length ≤ 1000 by simp)
      have HLB := Lib.hid (show ([] : List En).length + ([] : List En).length ≤ 1000 by simp)
      refine wp_region_inv (I := Put9nI bf be x _ _ _ _ _ _ _ _ _ _ _ _ _ _ _ _ _ _ _ _ _ _ _ _ _ _ _ _ _ _ _ _ _ w5) (by kernel_rfl) (by kernel_rfl) ⟨undef, undef, undef, undef, undef, undef, undef, undef, undef, undef, undef, undef, undef, undef, undef, rfl, ⟨(fun h => Bool.noConfusion h), (fun h => Bool.noConfusion h), (fun h => Bool.noConfusion h), (fun h => Bool.noConfusion h), (fun h => Bool.noConfusion h), (fun h => Bool.noConfusion h), (fun h => Bool.noConfusion h), (fun h => Bool.noConfusion h), (fun h => Bool.noConfusion h), (fun h => Bool.noConfusion h)⟩, ⟨fun _ => InsW.start w5, fun h => Bool.noConfusion h, fun h => Bool.noConfusion h⟩⟩ ?_ ?_
      · intro i hi L a w' hI hL haft
        obtain ⟨v36, v37, v38, v39, v40, v41, v42, v43, v44, v45, v46, v47, v48, v49, v50, rfl, hs, hw⟩ := hI
        match i, hi with
        | 0, _ =>
          have hI := hw.n (hw.no 0 (by decide) hL)
          exact i_val rfl (.slice (some ⟨w'.heap.size, 0, none⟩) 0 0) (w'.alloc (.cells #[] 38)) (by rfl) (by go_simp) ⟨(.slice (some ⟨w'.heap.size, 0, none⟩) 0 0), v37, v38, v39, v40, v41, v42, v43, v44, v45, v46, v47, v48, v49, v50, rfl, { hs with }, hw.step 0 (by decide) hL (hI.make0 hL)⟩
        | 1, _ =>
          have hI := hw.n (hw.no 1 (by decide) hL)
          exact i_val rfl (.pointer (some ⟨bf, 2, none⟩)) w' (by rfl) (by go_simp) ⟨v36, (.pointer (some ⟨bf, 2, none⟩)), v38, v39, v40, v41, v42, v43, v44, v45, v46, v47, v48, v49, v50, rfl, { hs with e37 := fun _ => rfl }, (hw.step 1 (by decide) hL hI)⟩
        | 2, _ =>
          have e37x := hs.e37 (haft 1 (by decide))
          subst e37x
          have hI := hw.n (hw.no 2 (by decide) hL)
          have hc := HCF.out w' hI.below
          exact i_val rfl (.slice none 0 0) w' (by rfl) (by go_simp) ⟨v36, (.pointer (some ⟨bf, 2, none⟩)), (.slice none 0 0), v39, v40, v41, v42, v43, v44, v45, v46, v47, v48, v49, v50, rfl, { hs with e38 := fun _ => rfl }, (hw.step 2 (by decide) hL hI)⟩
        | 3, _ =>
          have hI := hw.n (hw.no 3 (by decide) hL)
          exact i_val rfl (.int .i64 0) w' (by rfl) (by go_simp) ⟨v36, v37, v38, (.int .i64 0), v40, v41, v42, v43, v44, v45, v46, v47, v48, v49, v50, rfl, { hs with e39 := fun _ => rfl }, (hw.step 3 (by decide) hL hI)⟩
        | 4, _ =>
          have e38x := hs.e38 (haft 2 (by decide))
          subst e38x
          have e39x := hs.e39 (haft 3 (by decide))
          subst e39x
          have hI := hw.n (hw.no 4 (by decide) hL)
          exact i_val rfl (.slice none 0 0) w' (by rfl) (by go_simp) ⟨v36, v37, (.slice none 0 0), (.int .i64 0), (.slice none 0 0), v41, v42, v43, v44, v45, v46, v47, v48, v49, v50, rfl, { hs with e40 := fun _ => rfl }, (hw.step 4 (by decide) hL hI)⟩
        | 5, _ =>
          have e40x := hs.e40 (haft 4 (by decide))
          subst e40x
          have hI := hw.n (hw.no 5 (by decide) hL)
          obtain ⟨u, w2, hrun, hJ⟩ := hI.app4 enE (haft 0 (by decide)) hL (HS1.out w' hI.below) HLA.out 26
          exact i_wp rfl (by rfl) (wp_append_lst _ _ 26 rfl u w2 hrun ⟨v36, v37, v38, v39, (.slice none 0 0), u, v42, v43, v44, v45, v46, v47, v48, v49, v50, rfl, { hs with }, hw.step 5 (by decide) hL hJ⟩)
        | 6, _ =>
          have hI := hw.n (hw.no 6 (by decide) hL)
          exact i_val rfl (.agg (enA x)) w' (by rfl) (run_loadVar_of 38 _ rfl be rfl 38 (enA x) _ (HBK.out w' hI.below) Try.underlying38 rfl enSize) ⟨v36, v37, v38, v39, v40, v41, (.agg (enA x)), v43, v44, v45, v46, v47, v48, v49, v50, rfl, { hs with e42 := fun _ => rfl }, (hw.step 6 (by decide) hL hI)⟩
        | 7, _ =>
          have e42x := hs.e42 (haft 6 (by decide))
          subst e42x
          have hI := hw.n (hw.no 7 (by decide) hL)
          exact i_val rfl (.slice (some ⟨w'.heap.size, 0, none⟩) 1 1) (w'.alloc (.cells (enA x) 38)) (by rfl) (by go_simp) ⟨v36, v37, v38, v39, v40, v41, (.agg (enA x)), (.slice (some ⟨w'.heap.size, 0, none⟩) 1 1), v44, v45, v46, v47, v48, v49, v50, rfl, { hs with }, hw.step 7 (by decide) hL (hI.make6 enE hL (enA x) rfl)⟩
        | 8, _ =>
          have hI := hw.n (hw.no 8 (by decide) hL)
          obtain ⟨u, w2, hrun, hJ⟩ := hI.app7 enE (haft 5 (by decide)) (haft 7 (by decide)) hL HLA.out 26
          exact i_wp rfl (by rfl) (wp_append_lst _ _ 26 rfl u w2 hrun ⟨v36, v37, v38, v39, v40, v41, v42, v43, u, v45, v46, v47, v48, v49, v50, rfl, { hs with }, hw.step 8 (by decide) hL hJ⟩)
        | 9, _ =>
          have hI := hw.n (hw.no 9 (by decide) hL)
          exact i_val rfl (.pointer (some ⟨bf, 2, none⟩)) w' (by rfl) (by go_simp) ⟨v36, v37, v38, v39, v40, v41, v42, v43, v44, (.pointer (some ⟨bf, 2, none⟩)), v46, v47, v48, v49, v50, rfl, { hs with e45 := fun _ => rfl }, (hw.step 9 (by decide) hL hI)⟩
        | 10, _ =>
          have e45x := hs.e45 (haft 9 (by decide))
          subst e45x
          have hI := hw.n (hw.no 10 (by decide) hL)
          have hc := HCF.out w' hI.below
          exact i_val rfl (.slice none 0 0) w' (by rfl) (by go_simp) ⟨v36, v37, v38, v39, v40, v41, v42, v43, v44, (.pointer (some ⟨bf, 2, none⟩)), (.slice none 0 0), v47, v48, v49, v50, rfl, { hs with e46 := fun _ => rfl }, (hw.step 10 (by decide) hL hI)⟩
        | 11, _ =>
          have hI := hw.n (hw.no 11 (by decide) hL)
          exact i_val rfl (.int .i64 0) w' (by rfl) (by go_simp) ⟨v36, v37, v38, v39, v40, v41, v42, v43, v44, v45, v46, (.int .i64 0), v48, v49, v50, rfl, { hs with e47 := fun _ => rfl }, (hw.step 11 (by decide) hL hI)⟩
        | 12, _ =>
          have e46x := hs.e46 (haft 10 (by decide))
          subst e46x
          have e47x := hs.e47 (haft 11 (by decide))
          subst e47x
          have hI := hw.n (hw.no 12 (by decide) hL)
          exact i_val rfl (.slice none 0 0) w' (by rfl) (by go_simp) ⟨v36, v37, v38, v39, v40, v41, v42, v43, v44, v45, (.slice none 0 0), (.int .i64 0), (.slice none 0 0), v49, v50, rfl, { hs with e48 := fun _ => rfl }, (hw.step 12 (by decide) hL hI)⟩
        | 13, _ =>
          have e48x := hs.e48 (haft 12 (by decide))
          subst e48x
          have hI := hw.n (hw.no 13 (by decide) hL)
          obtain ⟨u, w2, hrun, hJ⟩ := hI.app11 enE (haft 8 (by decide)) hL (HS2.out w' hI.below) HLB.out 26
          exact i_wp rfl (by rfl) (wp_append_lst _ _ 26 rfl u w2 hrun ⟨v36, v37, v38, v39, v40, v41, v42, v43, v44, v45, v46, v47, (.slice none 0 0), u, v50, rfl, { hs with }, hw.step 13 (by decide) hL hJ⟩)
        | 14, _ =>
          have hI := hw.n (hw.no 14 (by decide) hL)
          exact i_val rfl (.pointer (some ⟨bf, 2, none⟩)) w' (by rfl) (by go_simp) ⟨v36, v37, v38, v39, v40, v41, v42, v43, v44, v45, v46, v47, v48, v49, (.pointer (some ⟨bf, 2, none⟩)), rfl, { hs with e50 := fun _ => rfl }, (hw.step 14 (by decide) hL hI)⟩
        | 15, _ =>
          have e50x := hs.e50 (haft 14 (by decide))
          subst e50x
          have hI := hw.n hL
          have hO := hI.p11 (haft 13 (by decide))
          have hbf := HBF.out w' hI.below
          obtain ⟨gg, cc, hv, -⟩ : ∃ gg cc, v49 = .slice (some ⟨gg, 0, none⟩) ([] ++ [x] ++ []).length cc ∧ True := by
            rcases hO.cases with ⟨-, q⟩ | ⟨gg, cc, hv, -⟩
            · simp at q
            · exact ⟨gg, cc, hv, trivial⟩
          obtain ⟨nn, hnn⟩ : ∃ nn, ([] ++ [x] ++ []).length = nn := ⟨_, rfl⟩
          rw [hnn] at hv
          subst hv
          exact i_wp rfl (by rfl) (wp_store_cell _ _ _ rfl ⟨bf, 2, none⟩ (.slice (some ⟨gg, 0, none⟩) nn cc) rfl rfl (by have c := hbf.cell 2; simp only [List.getElem?_toArray, List.getElem?_cons_succ, List.getElem?_cons_zero] at c; have fr := hbf.free 2; go_simp) ⟨v36, v37, v38, v39, v40, v41, v42, v43, v44, v45, v46, v47, v48, (.slice (some ⟨gg, 0, none⟩) nn cc), (.pointer (some ⟨bf, 2, none⟩)), rfl, { hs with }, hw.last hL (fun i hi => haft i (by match i, hi with | 0, _ => decide | 1, _ => decide | 2, _ => decide | 3, _ => decide | 4, _ => decide | 5, _ => decide | 6, _ => decide | 7, _ => decide | 8, _ => decide | 9, _ => decide | 10, _ => decide | 11, _ => decide | 12, _ => decide | 13, _ => decide | 14, _ => decide | k + 15, h => (exfalso; have h2 : k + 15 < 15 := h; omega))) id⟩)
        | k + 16, h =>
          exfalso
          have h2 : k + 16 < 16 := h
          omega
      intro L a w3 hI hall
      obtain ⟨v36, v37, v38, v39, v40, v41, v42, v43, v44, v45, v46, v47, v48, v49, v50, rfl, hs, hw⟩ := hI
      obtain ⟨W, hW, rfl⟩ := hw.y (hall 15 (by decide))
      have O6 := Lib.hid (hW.p11 (hall 13 (by decide)))
      have B6 := Lib.hid hW.below
      have hkn := S5.out.kn.next hW.below
      have HQ := Lib.hid (show ∀ q, v49.ownBlock = some q → w5.heap.size ≤ q from fun q hq => (O6.out.lt q hq).1)
      have O7 := Lib.hid (O6.out.setCell (a := ⟨bf, 2, none⟩) (fun q => by have := HQ.out bf q; have := LF.out; omega) v49)
      have hbf2 : Blk (W.setCell ⟨bf, 2, none⟩ v49) bf #[.int .i64 mo, .int .i64 li, v49] 28 := (hkn.at 2 rfl).set 2 v49
      have hbt2 : Blk (W.setCell ⟨bf, 2, none⟩ v49) bt #[.int .i64 0, .int .i64 0, .slice none 0 0] 28 := (hkn.at 0 rfl).other (a := ⟨bf, 2, none⟩) (by have := HNE.out; simpa using this) v49
      have B7 := Lib.hid (hkn.below.setCell (show w.heap.size ≤ (⟨bf, 2, none⟩ : Addr).block from HBF0.out) v49)
      clear hs hw hall hW hkn
      generalize W.setCell ⟨bf, 2, none⟩ v49 = W7 at *
      have HF2 := Lib.hid hbf2
      have HT2 := Lib.hid hbt2
      clear hbf2 hbt2
      go_wp2_with (first
        | (refine wpList_load_row rfl 28 _ rfl bf rfl 28 #[.int .i64 mo, .int .i64 li, v49] (0, 0) _ HF2.out Try.underlying28 rfl fdSize ?_)
        | (refine wpList_store_row rfl 28 _ _ rfl bt #[.int .i64 mo, .int .i64 li, v49] rfl rfl 28 #[.int .i64 0, .int .i64 0, .slice none 0 0] HT2.out fdSize rfl (fd_one mo li O6.out) ?_))
      exact bodyPost_ret (v := .agg #[.int .i64 mo, .int .i64 li, v49]) (results_cell_row Try.results42 _ _ bt 28 #[.int .i64 mo, .int .i64 li, v49] (0, 0) _ rfl (HT2.out.row _) Try.underlying28 rfl fdSize) rfl ⟨v49, rfl, by rw [RL.out]; exact (Own.setRow (O7.out.mono (Nat.le_trans HBASE.out S5.out.kn.below.size)) (fun q => by have := HQ.out bt q; have := LT.out; omega) _), below_setRow B7.out HBT0.out _⟩
    · obtain ⟨n, hn⟩ : ∃ n, l.length = n := ⟨_, rfl⟩
      rw [hn] at hsv hcap
      subst hsv
      have HN := Lib.hid hn
      have HCAP := Lib.hid hcap
      clear hn hcap
      obtain ⟨k, hk⟩ : ∃ k, posK enK (enK x) l = k := ⟨_, rfl⟩
      have PK := posK_spec enK (enK x) l
      have RL := Lib.hid (show putEn l0 x = l.take k ++ [x] ++ l.drop k by unfold putEn layK; rw [← HL4.out, hk])
      rw [hk, HN.out] at PK
      have KN := Lib.hid PK.1
      have P2 := Lib.hid PK.2.1
      have P3 := Lib.hid PK.2.2
      have hn300 : (n : Int) ≤ 300 := by have := HL.out; have := HN.out; omega
      have hncap : (n : Int) ≤ cap := by have := HCAP.out.1; omega
      have hcm : (cap : Int) ≤ 9223372036854775807 := by have := HCAP.out.2; unfold maxLen at this; omega
      clear PK hk
      go_upto_region 5 with fail
      go_loopw [6] (fun i wr => ∃ j : Nat, i = .int .i64 j ∧ j ≤ k ∧ P9 w bf be bt mo li (.slice (some ⟨g, 0, none⟩) n cap) x l wr) (fun i _ => n - (intOf i).toNat)
      case atStart => exact ⟨0, rfl, Nat.zero_le _, S4.out⟩
      case round =>
        obtain ⟨j, rfl, hj, hSr⟩ := hrel
        have hS := Lib.hid hSr
        clear hSr
        by_cases hlt : j < k
        · have hjn : j < n := by have := KN.out; omega
          obtain ⟨y, hy⟩ : ∃ y, l[j]? = some y := ⟨_, List.getElem?_eq_getElem (show j < l.length by rw [HN.out]; exact hjn)⟩
          obtain ⟨d, hd⟩ : ∃ d, d = decide (enK y < enK x) := ⟨_, rfl⟩
          have hdt : d = true := by rw [hd, decide_eq_true_eq]; exact P2.out j y hlt hy
          have HRY := Lib.hid (show ∀ w', P9 w bf be bt mo li (.slice (some ⟨g, 0, none⟩) n cap) x l w' → w'.rangeAt g (j * 9) (enA y).toList from fun w' hC i u hu => by
            have q := Own.at enC_len (by rw [HN.out]; exact hC.own) j i y hy (by have := (List.getElem?_eq_some_iff.1 hu).1; simpa using this)
            rw [q]
            exact hu)
          have HLESS := Lib.hid (show ∀ W : World, Calls Try.prog 55 #[enV y, enV x] W fun e w' => e = .returned (.bool d) ∧ Below W.heap.size W w' from fun W => by
            rw [hd]
            exact rless9 y x (HOK.out y (List.mem_of_getElem? hy)) HXO.out W)
          have hjn' : (j : Int) < n := by omega
          clear hy hd
          subst hdt
          go_upto_region 5 with fail
          refine wp_region_quiet (C := P9 w bf be bt mo li (.slice (some ⟨g, 0, none⟩) n cap) x l) (by kernel_rfl) (by kernel_rfl) hS.out.drew ?_
          (refine q_val (v := ?_) (by rfl) ?_ ?_; rotate_left; (· (intro w hC; go_simp; try with_reducible rfl)); (try simp only [Act.put, List.getElem_toArray, List.getElem_cons_succ, List.getElem_cons_zero, List.setIfInBounds_toArray, List.set_cons_zero, List.set_cons_succ]))
          (refine q_val (v := ?_) (by rfl) ?_ ?_; rotate_left; (· (intro w hC; go_simp; try with_reducible rfl)); (try simp only [Act.put, List.getElem_toArray, List.getElem_cons_succ, List.getElem_cons_zero, List.setIfInBounds_toArray, List.set_cons_zero, List.set_cons_succ]))
          (refine q_val (v := ?_) (by rfl) ?_ ?_; rotate_left; (· (intro w hC; have q := (hC.kn.at 2 rfl).cell 2; simp only [List.getElem?_toArray, List.getElem?_cons_succ, List.getElem?_cons_zero] at q; go_simp; try with_reducible rfl)); (try simp only [Act.put, List.getElem_toArray, List.getElem_cons_succ, List.getElem_cons_zero, List.setIfInBounds_toArray, List.set_cons_zero, List.set_cons_succ]))
          (refine q_val (v := ?_) (by rfl) ?_ ?_; rotate_left; (· (intro w hC; go_simp; try with_reducible rfl)); (try simp only [Act.put, List.getElem_toArray, List.getElem_cons_succ, List.getElem_cons_zero, List.setIfInBounds_toArray, List.set_cons_zero, List.set_cons_succ]))
          (refine q_val (v := ?_) (by rfl) ?_ ?_; rotate_left; (· (intro w hC; go_simp; try with_reducible rfl)); (try simp only [Act.put, List.getElem_toArray, List.getElem_cons_succ, List.getElem_cons_zero, List.setIfInBounds_toArray, List.set_cons_zero, List.set_cons_succ]))
          (refine q_val (v := ?_) (by rfl) ?_ ?_; rotate_left; (· (intro w hC; go_simp; try with_reducible rfl)); (try simp only [Act.put, List.getElem_toArray, List.getElem_cons_succ, List.getElem_cons_zero, List.setIfInBounds_toArray, List.set_cons_zero, List.set_cons_succ]))
          (refine q_val (v := ?_) (by rfl) ?_ ?_; rotate_left; (· (intro w hC; go_simp; try with_reducible rfl)); (try simp only [Act.put, List.getElem_toArray, List.getElem_cons_succ, List.getElem_cons_zero, List.setIfInBounds_toArray, List.set_cons_zero, List.set_cons_succ]))
          (refine q_val (v := ?_) (by rfl) ?_ ?_; rotate_left; (· (intro w hC; have q := (hC.kn.at 2 rfl).cell 2; simp only [List.getElem?_toArray, List.getElem?_cons_succ, List.getElem?_cons_zero] at q; go_simp; try with_reducible rfl)); (try simp only [Act.put, List.getElem_toArray, List.getElem_cons_succ, List.getElem_cons_zero, List.setIfInBounds_toArray, List.set_cons_zero, List.set_cons_succ]))
          (refine q_val (v := ?_) (by rfl) ?_ ?_; rotate_left; (· (intro w hC; go_simp; try with_reducible rfl)); (try simp only [Act.put, List.getElem_toArray, List.getElem_cons_succ, List.getElem_cons_zero, List.setIfInBounds_toArray, List.set_cons_zero, List.set_cons_succ]))
          (refine q_val (v := ?_) (by rfl) ?_ ?_; rotate_left; (· (intro w hC; go_simp; try with_reducible rfl)); (try simp only [Act.put, List.getElem_toArray, List.getElem_cons_succ, List.getElem_cons_zero, List.setIfInBounds_toArray, List.set_cons_zero, List.set_cons_succ]))
          (refine q_val (v := .agg (enA y)) (by rfl) (fun w hC => run_loadRange 38 _ rfl g (j * 9) rfl (enA y) _ (HRY.out w hC) Try.underlying38 rfl enSize) ?_; (try simp only [Act.put, List.getElem_toArray, List.getElem_cons_succ, List.getElem_cons_zero, List.setIfInBounds_toArray, List.set_cons_zero, List.set_cons_succ]))
          (refine q_val (v := .agg (enA x)) (by rfl) (fun w hC => run_loadVar_of 38 _ rfl be rfl 38 (enA x) _ (hC.kn.at 1 rfl) Try.underlying38 rfl enSize) ?_; (try simp only [Act.put, List.getElem_toArray, List.getElem_cons_succ, List.getElem_cons_zero, List.setIfInBounds_toArray, List.set_cons_zero, List.set_cons_succ]))
          (refine q_call (v := .bool true) 55 #[enV y, enV x] (by rfl) (fun w hC => by go_simp) (fun w hC => calls_in (HLESS.out w) (fun w' hb => hC.next hb)) ?_; (try simp only [Act.put, List.getElem_toArray, List.getElem_cons_succ, List.getElem_cons_zero, List.setIfInBounds_toArray, List.set_cons_zero, List.set_cons_succ]))
          (refine q_val (v := ?_) (by rfl) ?_ ?_; rotate_left; (· (intro w hC; go_simp; try with_reducible rfl)); (try simp only [Act.put, List.getElem_toArray, List.getElem_cons_succ, List.getElem_cons_zero, List.setIfInBounds_toArray, List.set_cons_zero, List.set_cons_succ]))
          refine wpQuiet_nil ?_
          intro w5 hC5
          have S5 := Lib.hid hC5
          clear hC5
          go_wp2_with fail
          go_roundw
          case rel => exact ⟨j + 1, by go_num, by omega, S5.out⟩
          case measure => simp [intOf]; omega
        · obtain rfl : k = j := by omega
          by_cases hjn : k < n
          · obtain ⟨y, hy⟩ : ∃ y, l[k]? = some y := ⟨_, List.getElem?_eq_getElem (show k < l.length by rw [HN.out]; exact hjn)⟩
            obtain ⟨d, hd⟩ : ∃ d, d = decide (enK y < enK x) := ⟨_, rfl⟩
            have hdt : d = false := by rw [hd, decide_eq_false_iff_not]; exact P3.out y hy
            have HRY := Lib.hid (show ∀ w', P9 w bf be bt mo li (.slice (some ⟨g, 0, none⟩) n cap) x l w' → w'.rangeAt g (k * 9) (enA y).toList from fun w' hC i u hu => by
              have q := Own.at enC_len (by rw [HN.out]; exact hC.own) k i y hy (by have := (List.getElem?_eq_some_iff.1 hu).1; simpa using this)
              rw [q]
              exact hu)
            have HLESS := Lib.hid (show ∀ W : World, Calls Try.prog 55 #[enV y, enV x] W fun e w' => e = .returned (.bool d) ∧ Below W.heap.size W w' from fun W => by
              rw [hd]
              exact rless9 y x (HOK.out y (List.mem_of_getElem? hy)) HXO.out W)
            have hjn' : (k : Int) < n := by omega
            clear hy hd hlt hj hjn
            subst hdt
            go_upto_region 5 with fail
            refine wp_region_quiet (C := P9 w bf be bt mo li (.slice (some ⟨g, 0, none⟩) n cap) x l) (by kernel_rfl) (by kernel_rfl) hS.out.drew ?_
            (refine q_val (v := ?_) (by rfl) ?_ ?_; rotate_left; (· (intro w hC; go_simp; try with_reducible rfl)); (try simp only [Act.put, List.getElem_toArray, List.getElem_cons_succ, List.getElem_cons_zero, List.setIfInBounds_toArray, List.set_cons_zero, List.set_cons_succ]))
            (refine q_val (v := ?_) (by rfl) ?_ ?_; rotate_left; (· (intro w hC; go_simp; try with_reducible rfl)); (try simp only [Act.put, List.getElem_toArray, List.getElem_cons_succ, List.getElem_cons_zero, List.setIfInBounds_toArray, List.set_cons_zero, List.set_cons_succ]))
            (refine q_val (v := ?_) (by rfl) ?_ ?_; rotate_left; (· (intro w hC; have q := (hC.kn.at 2 rfl).cell 2; simp only [List.getElem?_toArray, List.getElem?_cons_succ, List.getElem?_cons_zero] at q; go_simp; try with_reducible rfl)); (try simp only [Act.put, List.getElem_toArray, List.getElem_cons_succ, List.getElem_cons_zero, List.setIfInBounds_toArray, List.set_cons_zero, List.set_cons_succ]))
            (refine q_val (v := ?_) (by rfl) ?_ ?_; rotate_left; (· (intro w hC; go_simp; try with_reducible rfl)); (try simp only [Act.put, List.getElem_toArray, List.getElem_cons_succ, List.getElem_cons_zero, List.setIfInBounds_toArray, List.set_cons_zero, List.set_cons_succ]))
            (refine q_val (v := ?_) (by rfl) ?_ ?_; rotate_left; (· (intro w hC; go_simp; try with_reducible rfl)); (try simp only [Act.put, List.getElem_toArray, List.getElem_cons_succ, List.getElem_cons_zero, List.setIfInBounds_toArray, List.set_cons_zero, List.set_cons_succ]))
            (refine q_val (v := ?_) (by rfl) ?_ ?_; rotate_left; (· (intro w hC; go_simp; try with_reducible rfl)); (try simp only [Act.put, List.getElem_toArray, List.getElem_cons_succ, List.getElem_cons_zero, List.setIfInBounds_toArray, List.set_cons_zero, List.set_cons_succ]))
            (refine q_val (v := ?_) (by rfl) ?_ ?_; rotate_left; (· (intro w hC; go_simp; try with_reducible rfl)); (try simp only [Act.put, List.getElem_toArray, List.getElem_cons_succ, List.getElem_cons_zero, List.setIfInBounds_toArray, List.set_cons_zero, List.set_cons_succ]))
            (refine q_val (v := ?_) (by rfl) ?_ ?_; rotate_left; (· (intro w hC; have q := (hC.kn.at 2 rfl).cell 2; simp only [List.getElem?_toArray, List.getElem?_cons_succ, List.getElem?_cons_zero] at q; go_simp; try with_reducible rfl)); (try simp only [Act.put, List.getElem_toArray, List.getElem_cons_succ, List.getElem_cons_zero, List.setIfInBounds_toArray, List.set_cons_zero, List.set_cons_succ]))
            (refine q_val (v := ?_) (by rfl) ?_ ?_; rotate_left; (· (intro w hC; go_simp; try with_reducible rfl)); (try simp only [Act.put, List.getElem_toArray, List.getElem_cons_succ, List.getElem_cons_zero, List.setIfInBounds_toArray, List.set_cons_zero, List.set_cons_succ]))
            (refine q_val (v := ?_) (by rfl) ?_ ?_; rotate_left; (· (intro w hC; go_simp; try with_reducible rfl)); (try simp only [Act.put, List.getElem_toArray, List.getElem_cons_succ, List.getElem_cons_zero, List.setIfInBounds_toArray, List.set_cons_zero, List.set_cons_succ]))
            (refine q_val (v := .agg (enA y)) (by rfl) (fun w hC => run_loadRange 38 _ rfl g (k * 9) rfl (enA y) _ (HRY.out w hC) Try.underlying38 rfl enSize) ?_; (try simp only [Act.put, List.getElem_toArray, List.getElem_cons_succ, List.getElem_cons_zero, List.setIfInBounds_toArray, List.set_cons_zero, List.set_cons_succ]))
            (refine q_val (v := .agg (enA x)) (by rfl) (fun w hC => run_loadVar_of 38 _ rfl be rfl 38 (enA x) _ (hC.kn.at 1 rfl) Try.underlying38 rfl enSize) ?_; (try simp only [Act.put, List.getElem_toArray, List.getElem_cons_succ, List.getElem_cons_zero, List.setIfInBounds_toArray, List.set_cons_zero, List.set_cons_succ]))
            (refine q_call (v := .bool false) 55 #[enV y, enV x] (by rfl) (fun w hC => by go_simp) (fun w hC => calls_in (HLESS.out w) (fun w' hb => hC.next hb)) ?_; (try simp only [Act.put, List.getElem_toArray, List.getElem_cons_succ, List.getElem_cons_zero, List.setIfInBounds_toArray, List.set_cons_zero, List.set_cons_succ]))
            (refine q_val (v := ?_) (by rfl) ?_ ?_; rotate_left; (· (intro w hC; go_simp; try with_reducible rfl)); (try simp only [Act.put, List.getElem_toArray, List.getElem_cons_succ, List.getElem_cons_zero, List.setIfInBounds_toArray, List.set_cons_zero, List.set_cons_succ]))
            refine wpQuiet_nil ?_
            intro w5 hC5
            have S5 := Lib.hid hC5
            clear hC5
            go_upto_region 7 with fail
            have HCF := Lib.hid (show ∀ w', Below w5.heap.size w5 w' → w'.cell? ⟨bf, 2, none⟩ = some (.slice (some ⟨g, 0, none⟩) n cap) from fun w' hb => ((S5.out.kn.at 2 rfl).below hb (S5.out.kn.at 2 rfl).lt).cell 2)
            have HBF := Lib.hid (show ∀ w', Below w5.heap.size w5 w' → Blk w' bf #[.int .i64 mo, .int .i64 li, (.slice (some ⟨g, 0, none⟩) n cap)] 28 from fun w' hb => (S5.out.kn.at 2 rfl).below hb (S5.out.kn.at 2 rfl).lt)
            have HBK := Lib.hid (show ∀ w', Below w5.heap.size w5 w' → Blk w' be (enA x) 38 from fun w' hb => (S5.out.kn.at 1 rfl).below hb (S5.out.kn.at 1 rfl).lt)
            have LF := Lib.hid (show bf < w5.heap.size from (S5.out.kn.at 2 rfl).lt)
            have LT := Lib.hid (show bt < w5.heap.size from (S5.out.kn.at 0 rfl).lt)
            have HS1 := Lib.hid (show ∀ w', Below w5.heap.size w5 w' → Src w' enC (.slice (some ⟨g, 0, none⟩) k cap) (l.take k) from fun w' hb => by
              have o := S5.out.own.next hb
              rw [← HN.out] at o
              exact o.head enC_len (by have := KN.out; have := HN.out; omega))
            have HS2 := Lib.hid (show ∀ w', Below w5.heap.size w5 w' → Src w' enC (.slice (if cap = k then some ⟨g, 0, none⟩ else some ⟨g, k * 9, none⟩) (n - k) (cap - k)) (l.drop k) from fun w' hb => by
              have o := S5.out.own.next hb
              rw [← HN.out] at o ⊢
              exact o.tail enC_len (by have := KN.out; have := HN.out; omega) (by have := HCAP.out; have := HN.out; omega))
            have KC := Lib.hid (show k ≤ cap by have := KN.out; have := HCAP.out; omega)
            have K1 := Lib.hid (show (0 : Int) ≤ (k : Int) by omega)
            have K4 := Lib.hid (show (k : Int) ≤ n by have := KN.out; omega)
            have K5 := Lib.hid (show ((k : Int)).toNat = k by omega)
            have K6 := Lib.hid (show n ≤ cap from HCAP.out.1)
            have HLA := Lib.hid (show (l.take k).length ≤ 1000 by rw [List.length_take]; have := HL.out; have := HN.out; omega)
            have HLB := Lib.hid (show (l.take k).length + (l.drop k).length ≤ 1000 by rw [List.length_take, List.length_drop]; have := HL.out; have := HN.out; omega)
            refine wp_region_inv (I := Put9I g bf be n cap k x _ _ _ _ _ _ _ _ _ _ _ _ _ _ _ _ _ _ _ _ _ _ _ _ _ _ _ _ _ _ _ _ _ w5 l) (by kernel_rfl) (by kernel_rfl) ⟨undef, undef, undef, undef, undef, undef, undef, undef, undef, undef, undef, undef, undef, undef, undef, rfl, ⟨(fun h => Bool.noConfusion h), (fun h => Bool.noConfusion h), (fun h => Bool.noConfusion h), (fun h => Bool.noConfusion h), (fun h => Bool.noConfusion h), (fun h => Bool.noConfusion h), (fun h => Bool.noConfusion h), (fun h => Bool.noConfusion h), (fun h => Bool.noConfusion h), (fun h => Bool.noConfusion h)⟩, ⟨fun _ => InsW.start w5, fun h => Bool.noConfusion h, fun h => Bool.noConfusion h⟩⟩ ?_ ?_
            · intro i hi L a w' hI hL haft
              obtain ⟨v36, v37, v38, v39, v40, v41, v42, v43, v44, v45, v46, v47, v48, v49, v50, rfl, hs, hw⟩ := hI
              match i, hi with
              | 0, _ =>
                have hI := hw.n (hw.no 0 (by decide) hL)
                exact i_val rfl (.slice (some ⟨w'.heap.size, 0, none⟩) 0 0) (w'.alloc (.cells #[] 38)) (by rfl) (by go_simp) ⟨(.slice (some ⟨w'.heap.size, 0, none⟩) 0 0), v37, v38, v39, v40, v41, v42, v43, v44, v45, v46, v47, v48, v49, v50, rfl, { hs with }, hw.step 0 (by decide) hL (hI.make0 hL)⟩
              | 1, _ =>
                have hI := hw.n (hw.no 1 (by decide) hL)
                exact i_val rfl (.pointer (some ⟨bf, 2, none⟩)) w' (by rfl) (by go_simp) ⟨v36, (.pointer (some ⟨bf, 2, none⟩)), v38, v39, v40, v41, v42, v43, v44, v45, v46, v47, v48, v49, v50, rfl, { hs with e37 := fun _ => rfl }, (hw.step 1 (by decide) hL hI)⟩
              | 2, _ =>
                have e37x := hs.e37 (haft 1 (by decide))
                subst e37x
                have hI := hw.n (hw.no 2 (by decide) hL)
                have hc := HCF.out w' hI.below
                exact i_val rfl (.slice (some ⟨g, 0, none⟩) n cap) w' (by rfl) (by go_simp) ⟨v36, (.pointer (some ⟨bf, 2, none⟩)), (.slice (some ⟨g, 0, none⟩) n cap), v39, v40, v41, v42, v43, v44, v45, v46, v47, v48, v49, v50, rfl, { hs with e38 := fun _ => rfl }, (hw.step 2 (by decide) hL hI)⟩
              | 3, _ =>
                have hI := hw.n (hw.no 3 (by decide) hL)
                exact i_val rfl (.int .i64 (k : Nat)) w' (by rfl) (by go_simp) ⟨v36, v37, v38, (.int .i64 (k : Nat)), v40, v41, v42, v43, v44, v45, v46, v47, v48, v49, v50, rfl, { hs with e39 := fun _ => rfl }, (hw.step 3 (by decide) hL hI)⟩
              | 4, _ =>
                have e38x := hs.e38 (haft 2 (by decide))
                subst e38x
                have e39x := hs.e39 (haft 3 (by decide))
                subst e39x
                have hI := hw.n (hw.no 4 (by decide) hL)
                have e := KC.out
                exact i_val rfl (.slice (some ⟨g, 0, none⟩) k cap) w' (by rfl) (by go_simp) ⟨v36, v37, (.slice (some ⟨g, 0, none⟩) n cap), (.int .i64 (k : Nat)), (.slice (some ⟨g, 0, none⟩) k cap), v41, v42, v43, v44, v45, v46, v47, v48, v49, v50, rfl, { hs with e40 := fun _ => rfl }, (hw.step 4 (by decide) hL hI)⟩
              | 5, _ =>
                have e40x := hs.e40 (haft 4 (by decide))
                subst e40x
                have hI := hw.n (hw.no 5 (by decide) hL)
                obtain ⟨u, w2, hrun, hJ⟩ := hI.app4 enE (haft 0 (by decide)) hL (HS1.out w' hI.below) HLA.out 26
                exact i_wp rfl (by rfl) (wp_append_lst _ _ 26 rfl u w2 hrun ⟨v36, v37, v38, v39, (.slice (some ⟨g, 0, none⟩) k cap), u, v42, v43, v44, v45, v46, v47, v48, v49, v50, rfl, { hs with }, hw.step 5 (by decide) hL hJ⟩)
              | 6, _ =>
                have hI := hw.n (hw.no 6 (by decide) hL)
                exact i_val rfl (.agg (enA x)) w' (by rfl) (run_loadVar_of 38 _ rfl be rfl 38 (enA x) _ (HBK.out w' hI.below) Try.underlying38 rfl enSize) ⟨v36, v37, v38, v39, v40, v41, (.agg (enA x)), v43, v44, v45, v46, v47, v48, v49, v50, rfl, { hs with e42 := fun _ => rfl }, (hw.step 6 (by decide) hL hI)⟩
              | 7, _ =>
                have e42x := hs.e42 (haft 6 (by decide))
                subst e42x
                have hI := hw.n (hw.no 7 (by decide) hL)
                exact i_val rfl (.slice (some ⟨w'.heap.size, 0, none⟩) 1 1) (w'.alloc (.cells (enA x) 38)) (by rfl) (by go_simp) ⟨v36, v37, v38, v39, v40, v41, (.agg (enA x)), (.slice (some ⟨w'.heap.size, 0, none⟩) 1 1), v44, v45, v46, v47, v48, v49, v50, rfl, { hs with }, hw.step 7 (by decide) hL (hI.make6 enE hL (enA x) rfl)⟩
              | 8, _ =>
                have hI := hw.n (hw.no 8 (by decide) hL)
                obtain ⟨u, w2, hrun, hJ⟩ := hI.app7 enE (haft 5 (by decide)) (haft 7 (by decide)) hL HLA.out 26
                exact i_wp rfl (by rfl) (wp_append_lst _ _ 26 rfl u w2 hrun ⟨v36, v37, v38, v39, v40, v41, v42, v43, u, v45, v46, v47, v48, v49, v50, rfl, { hs with }, hw.step 8 (by decide) hL hJ⟩)
              | 9, _ =>
                have hI := hw.n (hw.no 9 (by decide) hL)
                exact i_val rfl (.pointer (some ⟨bf, 2, none⟩)) w' (by rfl) (by go_simp) ⟨v36, v37, v38, v39, v40, v41, v42, v43, v44, (.pointer (some ⟨bf, 2, none⟩)), v46, v47, v48, v49, v50, rfl, { hs with e45 := fun _ => rfl }, (hw.step 9 (by decide) hL hI)⟩
              | 10, _ =>
                have e45x := hs.e45 (haft 9 (by decide))
                subst e45x
                have hI := hw.n (hw.no 10 (by decide) hL)
                have hc := HCF.out w' hI.below
                exact i_val rfl (.slice (some ⟨g, 0, none⟩) n cap) w' (by rfl) (by go_simp) ⟨v36, v37, v38, v39, v40, v41, v42, v43, v44, (.pointer (some ⟨bf, 2, none⟩)), (.slice (some ⟨g, 0, none⟩) n cap), v47, v48, v49, v50, rfl, { hs with e46 := fun _ => rfl }, (hw.step 10 (by decide) hL hI)⟩
              | 11, _ =>
                have hI := hw.n (hw.no 11 (by decide) hL)
                exact i_val rfl (.int .i64 (k : Nat)) w' (by rfl) (by go_simp) ⟨v36, v37, v38, v39, v40, v41, v42, v43, v44, v45, v46, (.int .i64 (k : Nat)), v48, v49, v50, rfl, { hs with e47 := fun _ => rfl }, (hw.step 11 (by decide) hL hI)⟩
              | 12, _ =>
                have e46x := hs.e46 (haft 10 (by decide))
                subst e46x
                have e47x := hs.e47 (haft 11 (by decide))
                subst e47x
                have hI := hw.n (hw.no 12 (by decide) hL)
                have e1 := K1.out
                have e2 := K4.out
                have e3 := K5.out
                have e4 := K6.out
                exact i_val rfl (.slice (if cap = k then some ⟨g, 0, none⟩ else some ⟨g, k * 9, none⟩) (n - k) (cap - k)) w' (by rfl) (by go_simp) ⟨v36, v37, v38, v39, v40, v41, v42, v43, v44, v45, (.slice (some ⟨g, 0, none⟩) n cap), (.int .i64 (k : Nat)), (.slice (if cap = k then some ⟨g, 0, none⟩ else some ⟨g, k * 9, none⟩) (n - k) (cap - k)), v49, v50, rfl, { hs with e48 := fun _ => rfl }, (hw.step 12 (by decide) hL hI)⟩
              | 13, _ =>
                have e48x := hs.e48 (haft 12 (by decide))
                subst e48x
                have hI := hw.n (hw.no 13 (by decide) hL)
                obtain ⟨u, w2, hrun, hJ⟩ := hI.app11 enE (haft 8 (by decide)) hL (HS2.out w' hI.below) HLB.out 26
                exact i_wp rfl (by rfl) (wp_append_lst _ _ 26 rfl u w2 hrun ⟨v36, v37, v38, v39, v40, v41, v42, v43, v44, v45, v46, v47, (.slice (if cap = k then some ⟨g, 0, none⟩ else some ⟨g, k * 9, none⟩) (n - k) (cap - k)), u, v50, rfl, { hs with }, hw.step 13 (by decide) hL hJ⟩)
              | 14, _ =>
                have hI := hw.n (hw.no 14 (by decide) hL)
                exact i_val rfl (.pointer (some ⟨bf, 2, none⟩)) w' (by rfl) (by go_simp) ⟨v36, v37, v38, v39, v40, v41, v42, v43, v44, v45, v46, v47, v48, v49, (.pointer (some ⟨bf, 2, none⟩)), rfl, { hs with e50 := fun _ => rfl }, (hw.step 14 (by decide) hL hI)⟩
              | 15, _ =>
                have e50x := hs.e50 (haft 14 (by decide))
                subst e50x
                have hI := hw.n hL
                have hO := hI.p11 (haft 13 (by decide))
                have hbf := HBF.out w' hI.below
                obtain ⟨gg, cc, hv, -⟩ : ∃ gg cc, v49 = .slice (some ⟨gg, 0, none⟩) ((l.take k) ++ [x] ++ (l.drop k)).length cc ∧ True := by
                  rcases hO.cases with ⟨-, q⟩ | ⟨gg, cc, hv, -⟩
                  · simp at q
                  · exact ⟨gg, cc, hv, trivial⟩
                obtain ⟨nn, hnn⟩ : ∃ nn, ((l.take k) ++ [x] ++ (l.drop k)).length = nn := ⟨_, rfl⟩
                rw [hnn] at hv
                subst hv
                exact i_wp rfl (by rfl) (wp_store_cell _ _ _ rfl ⟨bf, 2, none⟩ (.slice (some ⟨gg, 0, none⟩) nn cc) rfl rfl (by have c := hbf.cell 2; simp only [List.getElem?_toArray, List.getElem?_cons_succ, List.getElem?_cons_zero] at c; have fr := hbf.free 2; go_simp) ⟨v36, v37, v38, v39, v40, v41, v42, v43, v44, v45, v46, v47, v48, (.slice (some ⟨gg, 0, none⟩) nn cc), (.pointer (some ⟨bf, 2, none⟩)), rfl, { hs with }, hw.last hL (fun i hi => haft i (by match i, hi with | 0, _ => decide | 1, _ => decide | 2, _ => decide | 3, _ => decide | 4, _ => decide | 5, _ => decide | 6, _ => decide | 7, _ => decide | 8, _ => decide | 9, _ => decide | 10, _ => decide | 11, _ => decide | 12, _ => decide | 13, _ => decide | 14, _ => decide | k + 15, h => (exfalso; have h2 : k + 15 < 15 := h; omega))) id⟩)
              | k + 16, h =>
                exfalso
                have h2 : k + 16 < 16 := h
                omega
            intro L a w3 hI hall
            obtain ⟨v36, v37, v38, v39, v40, v41, v42, v43, v44, v45, v46, v47, v48, v49, v50, rfl, hs, hw⟩ := hI
            obtain ⟨W, hW, rfl⟩ := hw.y (hall 15 (by decide))
            have O6 := Lib.hid (hW.p11 (hall 13 (by decide)))
            have B6 := Lib.hid hW.below
            have hkn := S5.out.kn.next hW.below
            have HQ := Lib.hid (show ∀ q, v49.ownBlock = some q → w5.heap.size ≤ q from fun q hq => (O6.out.lt q hq).1)
            have O7 := Lib.hid (O6.out.setCell (a := ⟨bf, 2, none⟩) (fun q => by have := HQ.out bf q; have := LF.out; omega) v49)
            have hbf2 : Blk (W.setCell ⟨bf, 2, none⟩ v49) bf #[.int .i64 mo, .int .i64 li, v49] 28 := (hkn.at 2 rfl).set 2 v49
            have hbt2 : Blk (W.setCell ⟨bf, 2, none⟩ v49) bt #[.int .i64 0, .int .i64 0, .slice none 0 0] 28 := (hkn.at 0 rfl).other (a := ⟨bf, 2, none⟩) (by have := HNE.out; simpa using this) v49
            have B7 := Lib.hid (hkn.below.setCell (show w.heap.size ≤ (⟨bf, 2, none⟩ : Addr).block from HBF0.out) v49)
            clear hs hw hall hW hkn
            generalize W.setCell ⟨bf, 2, none⟩ v49 = W7 at *
            have HF2 := Lib.hid hbf2
            have HT2 := Lib.hid hbt2
            clear hbf2 hbt2
            go_wp2_with (first
              | (refine wpList_load_row rfl 28 _ rfl bf rfl 28 #[.int .i64 mo, .int .i64 li, v49] (0, 0) _ HF2.out Try.underlying28 rfl fdSize ?_)
              | (refine wpList_store_row rfl 28 _ _ rfl bt #[.int .i64 mo, .int .i64 li, v49] rfl rfl 28 #[.int .i64 0, .int .i64 0, .slice none 0 0] HT2.out fdSize rfl (fd_one mo li O6.out) ?_))
            exact bodyPost_ret (v := .agg #[.int .i64 mo, .int .i64 li, v49]) (results_cell_row Try.results42 _ _ bt 28 #[.int .i64 mo, .int .i64 li, v49] (0, 0) _ rfl (HT2.out.row _) Try.underlying28 rfl fdSize) rfl ⟨v49, rfl, by rw [RL.out]; exact (Own.setRow (O7.out.mono (Nat.le_trans HBASE.out S5.out.kn.below.size)) (fun q => by have := HQ.out bt q; have := LT.out; omega) _), below_setRow B7.out HBT0.out _⟩
          · have hjn' : ¬ (k : Int) < n := by omega
            clear hlt hj hjn
            go_upto_region 5 with fail
            refine wp_region_quiet (C := P9 w bf be bt mo li (.slice (some ⟨g, 0, none⟩) n cap) x l) (by kernel_rfl) (by kernel_rfl) hS.out.drew ?_
            (refine q_val (v := ?_) (by rfl) ?_ ?_; rotate_left; (· (intro w hC; go_simp; try with_reducible rfl)); (try simp only [Act.put, List.getElem_toArray, List.getElem_cons_succ, List.getElem_cons_zero, List.setIfInBounds_toArray, List.set_cons_zero, List.set_cons_succ]))
            (refine q_val (v := ?_) (by rfl) ?_ ?_; rotate_left; (· (intro w hC; go_simp; try with_reducible rfl)); (try simp only [Act.put, List.getElem_toArray, List.getElem_cons_succ, List.getElem_cons_zero, List.setIfInBounds_toArray, List.set_cons_zero, List.set_cons_succ]))
            (refine q_val (v := ?_) (by rfl) ?_ ?_; rotate_left; (· (intro w hC; have q := (hC.kn.at 2 rfl).cell 2; simp only [List.getElem?_toArray, List.getElem?_cons_succ, List.getElem?_cons_zero] at q; go_simp; try with_reducible rfl)); (try simp only [Act.put, List.getElem_toArray, List.getElem_cons_succ, List.getElem_cons_zero, List.setIfInBounds_toArray, List.set_cons_zero, List.set_cons_succ]))
            (refine q_val (v := ?_) (by rfl) ?_ ?_; rotate_left; (· (intro w hC; go_simp; try with_reducible rfl)); (try simp only [Act.put, List.getElem_toArray, List.getElem_cons_succ, List.getElem_cons_zero, List.setIfInBounds_toArray, List.set_cons_zero, List.set_cons_succ]))
            (refine q_val (v := ?_) (by rfl) ?_ ?_; rotate_left; (· (intro w hC; go_simp; try with_reducible rfl)); (try simp only [Act.put, List.getElem_toArray, List.getElem_cons_succ, List.getElem_cons_zero, List.setIfInBounds_toArray, List.set_cons_zero, List.set_cons_succ]))
            (refine q_val (v := ?_) (by rfl) ?_ ?_; rotate_left; (· (intro w hC; go_simp; try with_reducible rfl)); (try simp only [Act.put, List.getElem_toArray, List.getElem_cons_succ, List.getElem_cons_zero, List.setIfInBounds_toArray, List.set_cons_zero, List.set_cons_succ]))
            (refine q_skip (by rfl) ?_; (try simp only [Act.put, List.getElem_toArray, List.getElem_cons_succ, List.getElem_cons_zero, List.setIfInBounds_toArray, List.set_cons_zero, List.set_cons_succ]))
            (refine q_skip (by rfl) ?_; (try simp only [Act.put, List.getElem_toArray, List.getElem_cons_succ, List.getElem_cons_zero, List.setIfInBounds_toArray, List.set_cons_zero, List.set_cons_succ]))
            (refine q_skip (by rfl) ?_; (try simp only [Act.put, List.getElem_toArray, List.getElem_cons_succ, List.getElem_cons_zero, List.setIfInBounds_toArray, List.set_cons_zero, List.set_cons_succ]))
            (refine q_skip (by rfl) ?_; (try simp only [Act.put, List.getElem_toArray, List.getElem_cons_succ, List.getElem_cons_zero, List.setIfInBounds_toArray, List.set_cons_zero, List.set_cons_succ]))
            (refine q_skip (by rfl) ?_; (try simp only [Act.put, List.getElem_toArray, List.getElem_cons_succ, List.getElem_cons_zero, List.setIfInBounds_toArray, List.set_cons_zero, List.set_cons_succ]))
            (refine q_skip (by rfl) ?_; (try simp only [Act.put, List.getElem_toArray, List.getElem_cons_succ, List.getElem_cons_zero, List.setIfInBounds_toArray, List.set_cons_zero, List.set_cons_succ]))
            (refine q_skip (by rfl) ?_; (try simp only [Act.put, List.getElem_toArray, List.getElem_cons_succ, List.getElem_cons_zero, List.setIfInBounds_toArray, List.set_cons_zero, List.set_cons_succ]))
            (refine q_val (v := ?_) (by rfl) ?_ ?_; rotate_left; (· (intro w hC; go_simp; try with_reducible rfl)); (try simp only [Act.put, List.getElem_toArray, List.getElem_cons_succ, List.getElem_cons_zero, List.setIfInBounds_toArray, List.set_cons_zero, List.set_cons_succ]))
            refine wpQuiet_nil ?_
            intro w5 hC5
            have S5 := Lib.hid hC5
            clear hC5
            go_upto_region 7 with fail
            have HCF := Lib.hid (show ∀ w', Below w5.heap.size w5 w' → w'.cell? ⟨bf, 2, none⟩ = some (.slice (some ⟨g, 0, none⟩) n cap) from fun w' hb => ((S5.out.kn.at 2 rfl).below hb (S5.out.kn.at 2 rfl).lt).cell 2)
            have HBF := Lib.hid (show ∀ w', Below w5.heap.size w5 w' → Blk w' bf #[.int .i64 mo, .int .i64 li, (.slice (some ⟨g, 0, none⟩) n cap)] 28 from fun w' hb => (S5.out.kn.at 2 rfl).below hb (S5.out.kn.at 2 rfl).lt)
            have HBK := Lib.hid (show ∀ w', Below w5.heap.size w5 w' → Blk w' be (enA x) 38 from fun w' hb => (S5.out.kn.at 1 rfl).below hb (S5.out.kn.at 1 rfl).lt)
            have LF := Lib.hid (show bf < w5.heap.size from (S5.out.kn.at 2 rfl).lt)
            have LT := Lib.hid (show bt < w5.heap.size from (S5.out.kn.at 0 rfl).lt)
            have HS1 := Lib.hid (show ∀ w', Below w5.heap.size w5 w' → Src w' enC (.slice (some ⟨g, 0, none⟩) k cap) (l.take k) from fun w' hb => by
              have o := S5.out.own.next hb
              rw [← HN.out] at o
              exact o.head enC_len (by have := KN.out; have := HN.out; omega))
            have HS2 := Lib.hid (show ∀ w', Below w5.heap.size w5 w' → Src w' enC (.slice (if cap = k then some ⟨g, 0, none⟩ else some ⟨g, k * 9, none⟩) (n - k) (cap - k)) (l.drop k) from fun w' hb => by
              have o := S5.out.own.next hb
              rw [← HN.out] at o ⊢
              exact o.tail enC_len (by have := KN.out; have := HN.out; omega) (by have := HCAP.out; have := HN.out; omega))
            have KC := Lib.hid (show k ≤ cap by have := KN.out; have := HCAP.out; omega)
            have K1 := Lib.hid (show (0 : Int) ≤ (k : Int) by omega)
            have K4 := Lib.hid (show (k : Int) ≤ n by have := KN.out; omega)
            have K5 := Lib.hid (show ((k : Int)).toNat = k by omega)
            have K6 := Lib.hid (show n ≤ cap from HCAP.out.1)
            have HLA := Lib.hid (show (l.take k).length ≤ 1000 by rw [List.length_take]; have := HL.out; have := HN.out; omega)
            have HLB := Lib.hid (show (l.take k).length + (l.drop k).length ≤ 1000 by rw [List.length_take, List.length_drop]; have := HL.out; have := HN.out; omega)
            refine wp_region_inv (I := Put9I g bf be n cap k x _ _ _ _ _ _ _ _ _ _ _ _ _ _ _ _ _ _ _ _ _ _ _ _ _ _ _ _ _ _ _ _ _ w5 l) (by kernel_rfl) (by kernel_rfl) ⟨undef, undef, undef, undef, undef, undef, undef, undef, undef, undef, undef, undef, undef, undef, undef, rfl, ⟨(fun h => Bool.noConfusion h), (fun h => Bool.noConfusion h), (fun h => Bool.noConfusion h), (fun h => Bool.noConfusion h), (fun h => Bool.noConfusion h), (fun h => Bool.noConfusion h), (fun h => Bool.noConfusion h), (fun h => Bool.noConfusion h), (fun h => Bool.noConfusion h), (fun h => Bool.noConfusion h)⟩, ⟨fun _ => InsW.start w5, fun h => Bool.noConfusion h, fun h => Bool.noConfusion h⟩⟩ ?_ ?_
            · intro i hi L a w' hI hL haft
              obtain ⟨v36, v37, v38, v39, v40, v41, v42, v43, v44, v45, v46, v47, v48, v49, v50, rfl, hs, hw⟩ := hI
              match i, hi with
              | 0, _ =>
                have hI := hw.n (hw.no 0 (by decide) hL)
                exact i_val rfl (.slice (some ⟨w'.heap.size, 0, none⟩) 0 0) (w'.alloc (.cells #[] 38)) (by rfl) (by go_simp) ⟨(.slice (some ⟨w'.heap.size, 0, none⟩) 0 0), v37, v38, v39, v40, v41, v42, v43, v44, v45, v46, v47, v48, v49, v50, rfl, { hs with }, hw.step 0 (by decide) hL (hI.make0 hL)⟩
              | 1, _ =>
                have hI := hw.n (hw.no 1 (by decide) hL)
                exact i_val rfl (.pointer (some ⟨bf, 2, none⟩)) w' (by rfl) (by go_simp) ⟨v36, (.pointer (some ⟨bf, 2, none⟩)), v38, v39, v40, v41, v42, v43, v44, v45, v46, v47, v48, v49, v50, rfl, { hs with e37 := fun _ => rfl }, (hw.step 1 (by decide) hL hI)⟩
              | 2, _ =>
                have e37x := hs.e37 (haft 1 (by decide))
                subst e37x
                have hI := hw.n (hw.no 2 (by decide) hL)
                have hc := HCF.out w' hI.below
                exact i_val rfl (.slice (some ⟨g, 0, none⟩) n cap) w' (by rfl) (by go_simp) ⟨v36, (.pointer (some ⟨bf, 2, none⟩)), (.slice (some ⟨g, 0, none⟩) n cap), v39, v40, v41, v42, v43, v44, v45, v46, v47, v48, v49, v50, rfl, { hs with e38 := fun _ => rfl }, (hw.step 2 (by decide) hL hI)⟩
              | 3, _ =>
                have hI := hw.n (hw.no 3 (by decide) hL)
                exact i_val rfl (.int .i64 (k : Nat)) w' (by rfl) (by go_simp) ⟨v36, v37, v38, (.int .i64 (k : Nat)), v40, v41, v42, v43, v44, v45, v46, v47, v48, v49, v50, rfl, { hs with e39 := fun _ => rfl }, (hw.step 3 (by decide) hL hI)⟩
              | 4, _ =>
                have e38x := hs.e38 (haft 2 (by decide))
                subst e38x
                have e39x := hs.e39 (haft 3 (by decide))
                subst e39x
                have hI := hw.n (hw.no 4 (by decide) hL)
                have e := KC.out
                exact i_val rfl (.slice (some ⟨g, 0, none⟩) k cap) w' (by rfl) (by go_simp) ⟨v36, v37, (.slice (some ⟨g, 0, none⟩) n cap), (.int .i64 (k : Nat)), (.slice (some ⟨g, 0, none⟩) k cap), v41, v42, v43, v44, v45, v46, v47, v48, v49, v50, rfl, { hs with e40 := fun _ => rfl }, (hw.step 4 (by decide) hL hI)⟩
              | 5, _ =>
                have e40x := hs.e40 (haft 4 (by decide))
                subst e40x
                have hI := hw.n (hw.no 5 (by decide) hL)
                obtain ⟨u, w2, hrun, hJ⟩ := hI.app4 enE (haft 0 (by decide)) hL (HS1.out w' hI.below) HLA.out 26
                exact i_wp rfl (by rfl) (wp_append_lst _ _ 26 rfl u w2 hrun ⟨v36, v37, v38, v39, (.slice (some ⟨g, 0, none⟩) k cap), u, v42, v43, v44, v45, v46, v47, v48, v49, v50, rfl, { hs with }, hw.step 5 (by decide) hL hJ⟩)
              | 6, _ =>
                have hI := hw.n (hw.no 6 (by decide) hL)
                exact i_val rfl (.agg (enA x)) w' (by rfl) (run_loadVar_of 38 _ rfl be rfl 38 (enA x) _ (HBK.out w' hI.below) Try.underlying38 rfl enSize) ⟨v36, v37, v38, v39, v40, v41, (.agg (enA x)), v43, v44, v45, v46, v47, v48, v49, v50, rfl, { hs with e42 := fun _ => rfl }, (hw.step 6 (by decide) hL hI)⟩
              | 7, _ =>
                have e42x := hs.e42 (haft 6 (by decide))
                subst e42x
                have hI := hw.n (hw.no 7 (by decide) hL)
                exact i_val rfl (.slice (some ⟨w'.heap.size, 0, none⟩) 1 1) (w'.alloc (.cells (enA x) 38)) (by rfl) (by go_simp) ⟨v36, v37, v38, v39, v40, v41, (.agg (enA x)), (.slice (some ⟨w'.heap.size, 0, none⟩) 1 1), v44, v45, v46, v47, v48, v49, v50, rfl, { hs with }, hw.step 7 (by decide) hL (hI.make6 enE hL (enA x) rfl)⟩
              | 8, _ =>
                have hI := hw.n (hw.no 8 (by decide) hL)
                obtain ⟨u, w2, hrun, hJ⟩ := hI.app7 enE (haft 5 (by decide)) (haft 7 (by decide)) hL HLA.out 26
                exact i_wp rfl (by rfl) (wp_append_lst _ _ 26 rfl u w2 hrun ⟨v36, v37, v38, v39, v40, v41, v42, v43, u, v45, v46, v47, v48, v49, v50, rfl, { hs with }, hw.step 8 (by decide) hL hJ⟩)
              | 9, _ =>
                have hI := hw.n (hw.no 9 (by decide) hL)
                exact i_val rfl (.pointer (some ⟨bf, 2, none⟩)) w' (by rfl) (by go_simp) ⟨v36, v37, v38, v39, v40, v41, v42, v43, v44, (.pointer (some ⟨bf, 2, none⟩)), v46, v47, v48, v49, v50, rfl, { hs with e45 := fun _ => rfl }, (hw.step 9 (by decide) hL hI)⟩
              | 10, _ =>
                have e45x := hs.e45 (haft 9 (by decide))
                subst e45x
                have hI := hw.n (hw.no 10 (by decide) hL)
                have hc := HCF.out w' hI.below
                exact i_val rfl (.slice (some ⟨g, 0, none⟩) n cap) w' (by rfl) (by go_simp) ⟨v36, v37, v38, v39, v40, v41, v42, v43, v44, (.pointer (some ⟨bf, 2, none⟩)), (.slice (some ⟨g, 0, none⟩) n cap), v47, v48, v49, v50, rfl, { hs with e46 := fun _ => rfl }, (hw.step 10 (by decide) hL hI)⟩
              | 11, _ =>
                have hI := hw.n (hw.no 11 (by decide) hL)
                exact i_val rfl (.int .i64 (k : Nat)) w' (by rfl) (by go_simp) ⟨v36, v37, v38, v39, v40, v41, v42, v43, v44, v45, v46, (.int .i64 (k : Nat)), v48, v49, v50, rfl, { hs with e47 := fun _ => rfl }, (hw.step 11 (by decide) hL hI)⟩
              | 12, _ =>
                have e46x := hs.e46 (haft 10 (by decide))
                subst e46x
                have e47x := hs.e47 (haft 11 (by decide))
                subst e47x
                have hI := hw.n (hw.no 12 (by decide) hL)
                have e1 := K1.out
                have e2 := K4.out
                have e3 := K5.out
                have e4 := K6.out
                exact i_val rfl (.slice (if cap = k then some ⟨g, 0, none⟩ else some ⟨g, k * 9, none⟩) (n - k) (cap - k)) w' (by rfl) (by go_simp) ⟨v36, v37, v38, v39, v40, v41, v42, v43, v44, v45, (.slice (some ⟨g, 0, none⟩) n cap), (.int .i64 (k : Nat)), (.slice (if cap = k then some ⟨g, 0, none⟩ else some ⟨g, k * 9, none⟩) (n - k) (cap - k)), v49, v50, rfl, { hs with e48 := fun _ => rfl }, (hw.step 12 (by decide) hL hI)⟩
              | 13, _ =>
                have e48x := hs.e48 (haft 12 (by decide))
                subst e48x
                have hI := hw.n (hw.no 13 (by decide) hL)
                obtain ⟨u, w2, hrun, hJ⟩ := hI.app11 enE (haft 8 (by decide)) hL (HS2.out w' hI.below) HLB.out 26
                exact i_wp rfl (by rfl) (wp_append_lst _ _ 26 rfl u w2 hrun ⟨v36, v37, v38, v39, v40, v41, v42, v43, v44, v45, v46, v47, (.slice (if cap = k then some ⟨g, 0, none⟩ else some ⟨g, k * 9, none⟩) (n - k) (cap - k)), u, v50, rfl, { hs with }, hw.step 13 (by decide) hL hJ⟩)
              | 14, _ =>
                have hI := hw.n (hw.no 14 (by decide) hL)
                exact i_val rfl (.pointer (some ⟨bf, 2, none⟩)) w' (by rfl) (by go_simp) ⟨v36, v37, v38, v39, v40, v41, v42, v43, v44, v45, v46, v47, v48, v49, (.pointer (some ⟨bf, 2, none⟩)), rfl, { hs with e50 := fun _ => rfl }, (hw.step 14 (by decide) hL hI)⟩
              | 15, _ =>
                have e50x := hs.e50 (haft 14 (by decide))
                subst e50x
                have hI := hw.n hL
                have hO := hI.p11 (haft 13 (by decide))
                have hbf := HBF.out w' hI.below
                obtain ⟨gg, cc, hv, -⟩ : ∃ gg cc, v49 = .slice (some ⟨gg, 0, none⟩) ((l.take k) ++ [x] ++ (l.drop k)).length cc ∧ True := by
                  rcases hO.cases with ⟨-, q⟩ | ⟨gg, cc, hv, -⟩
                  · simp at q
                  · exact ⟨gg, cc, hv, trivial⟩
                obtain ⟨nn, hnn⟩ : ∃ nn, ((l.take k) ++ [x] ++ (l.drop k)).length = nn := ⟨_, rfl⟩
                rw [hnn] at hv
                subst hv
                exact i_wp rfl (by rfl) (wp_store_cell _ _ _ rfl ⟨bf, 2, none⟩ (.slice (some ⟨gg, 0, none⟩) nn cc) rfl rfl (by have c := hbf.cell 2; simp only [List.getElem?_toArray, List.getElem?_cons_succ, List.getElem?_cons_zero] at c; have fr := hbf.free 2; go_simp) ⟨v36, v37, v38, v39, v40, v41, v42, v43, v44, v45, v46, v47, v48, (.slice (some ⟨gg, 0, none⟩) nn cc), (.pointer (some ⟨bf, 2, none⟩)), rfl, { hs with }, hw.last hL (fun i hi => haft i (by match i, hi with | 0, _ => decide | 1, _ => decide | 2, _ => decide | 3, _ => decide | 4, _ => decide | 5, _ => decide | 6, _ => decide | 7, _ => decide | 8, _ => decide | 9, _ => decide | 10, _ => decide | 11, _ => decide | 12, _ => decide | 13, _ => decide | 14, _ => decide | k + 15, h => (exfalso; have h2 : k + 15 < 15 := h; omega))) id⟩)
              | k + 16, h =>
                exfalso
                have h2 : k + 16 < 16 := h
                omega
            intro L a w3 hI hall
            obtain ⟨v36, v37, v38, v39, v40, v41, v42, v43, v44, v45, v46, v47, v48, v49, v50, rfl, hs, hw⟩ := hI
            obtain ⟨W, hW, rfl⟩ := hw.y (hall 15 (by decide))
            have O6 := Lib.hid (hW.p11 (hall 13 (by decide)))
            have B6 := Lib.hid hW.below
            have hkn := S5.out.kn.next hW.below
            have HQ := Lib.hid (show ∀ q, v49.ownBlock = some q → w5.heap.size ≤ q from fun q hq => (O6.out.lt q hq).1)
            have O7 := Lib.hid (O6.out.setCell (a := ⟨bf, 2, none⟩) (fun q => by have := HQ.out bf q; have := LF.out; omega) v49)
            have hbf2 : Blk (W.setCell ⟨bf, 2, none⟩ v49) bf #[.int .i64 mo, .int .i64 li, v49] 28 := (hkn.at 2 rfl).set 2 v49
            have hbt2 : Blk (W.setCell ⟨bf, 2, none⟩ v49) bt #[.int .i64 0, .int .i64 0, .slice none 0 0] 28 := (hkn.at 0 rfl).other (a := ⟨bf, 2, none⟩) (by have := HNE.out; simpa using this) v49
            have B7 := Lib.hid (hkn.below.setCell (show w.heap.size ≤ (⟨bf, 2, none⟩ : Addr).block from HBF0.out) v49)
            clear hs hw hall hW hkn
            generalize W.setCell ⟨bf, 2, none⟩ v49 = W7 at *
            have HF2 := Lib.hid hbf2
            have HT2 := Lib.hid hbt2
            clear hbf2 hbt2
            go_wp2_with (first
              | (refine wpList_load_row rfl 28 _ rfl bf rfl 28 #[.int .i64 mo, .int .i64 li, v49] (0, 0) _ HF2.out Try.underlying28 rfl fdSize ?_)
              | (refine wpList_store_row rfl 28 _ _ rfl bt #[.int .i64 mo, .int .i64 li, v49] rfl rfl 28 #[.int .i64 0, .int .i64 0, .slice none 0 0] HT2.out fdSize rfl (fd_one mo li O6.out) ?_))
            exact bodyPost_ret (v := .agg #[.int .i64 mo, .int .i64 li, v49]) (results_cell_row Try.results42 _ _ bt 28 #[.int .i64 mo, .int .i64 li, v49] (0, 0) _ rfl (HT2.out.row _) Try.underlying28 rfl fdSize) rfl ⟨v49, rfl, by rw [RL.out]; exact (Own.setRow (O7.out.mono (Nat.le_trans HBASE.out S5.out.kn.below.size)) (fun q => by have := HQ.out bt q; have := LT.out; omega) _), below_setRow B7.out HBT0.out _⟩

end Go.Proofs.Ytilklfmcdgggfaa
end
section
namespace Go.Proofs.Ytilklfmcdgggfaa
open Go.RowKit
set_option linter.unusedSimpArgs false
set_option linter.unusedVariables false

/-- One tick older. -/
def older (x : En) : En := ⟨x.vid, x.mac, x.port, x.age + 1⟩
def tickL (li : Int) (l : List En) : List En := (l.map older).filter fun x => decide (x.age < li)
theorem tickL_snoc (li : Int) (l : List En) (x : En) : tickL li (l ++ [x]) = if x.age + 1 < li then tickL li l ++ [older x] else tickL li l := by
  unfold tickL
  rw [List.map_append, List.filter_append]
  by_cases h : x.age + 1 < li
  · rw [if_pos h]; simp [older, h]
  · rw [if_neg h]; simp [older, h]
theorem tickL_len (li : Int) (l : List En) : (tickL li l).length ≤ l.length := by
  unfold tickL
  exact Nat.le_trans (List.length_filter_le _ _) (by simp)

set_option maxRecDepth 100000 in
set_option maxHeartbeats 16000000 in
theorem rtick9_own (base g cap : Nat) (mo li : Int) (l : List En) (w : World) (h : Own w base 38 9 enC (.slice (some ⟨g, 0, none⟩) l.length cap) l) (hcap : l.length ≤ cap ∧ cap ≤ maxLen) (ha : ∀ x ∈ l, 0 ≤ x.age ∧ x.age ≤ 1000) (hb : base ≤ w.heap.size) (hl : l.length ≤ 100) :
    Calls Try.prog 12 #[.agg #[.int .i64 mo, .int .i64 li, .slice (some ⟨g, 0, none⟩) l.length cap]] w fun e w' => ∃ v', e = .returned (.tuple #[.agg #[.int .i64 mo, .int .i64 li, v'], .int .i64 ((l.length : Int) - (tickL li l).length)]) ∧ Own w' base 38 9 enC v' (tickL li l) ∧ Below w.heap.size w w' := by
  obtain ⟨n, hn⟩ : ∃ n, l.length = n := ⟨_, rfl⟩
  rw [hn] at h hcap hl ⊢
  have HN := Lib.hid hn
  have HA := Lib.hid ha
  have HCAP := Lib.hid hcap
  have HL := Lib.hid hl
  have HBASE := Lib.hid hb
  have hn2 : (n : Int) ≤ 100 := by omega
  have hnc : (n : Int) ≤ cap := by omega
  have K1 := Lib.hid (show Kn w [((w.alloc (.cells #[.int .i64 mo, .int .i64 li, .slice (some ⟨g, 0, none⟩) n cap] 28)).heap.size, #[.int .i64 0, .int .i64 0, .slice none 0 0], 28), (w.heap.size, #[.int .i64 mo, .int .i64 li, .slice (some ⟨g, 0, none⟩) n cap], 28)] ((w.alloc (.cells #[.int .i64 mo, .int .i64 li, .slice (some ⟨g, 0, none⟩) n cap] 28)).alloc (.cells #[.int .i64 0, .int .i64 0, .slice none 0 0] 28)) from ((Kn.nil w).alloc _ _).alloc _ _)
  have H1 := Lib.hid ((h.alloc (.cells #[.int .i64 mo, .int .i64 li, .slice (some ⟨g, 0, none⟩) n cap] 28)).alloc (.cells #[.int .i64 0, .int .i64 0, .slice none 0 0] 28))
  clear h hn ha hcap hl hb
  go_enter Try.func12, Try.ntmps12
  go_upto_region 1 with fail
  rw [World.size_alloc] at K1
  generalize hw1 : (w.alloc (.cells #[.int .i64 mo, .int .i64 li, .slice (some ⟨g, 0, none⟩) n cap] 28)).alloc (.cells #[.int .i64 0, .int .i64 0, .slice none 0 0] 28) = w1 at K1 H1 ⊢
  generalize hbt : w.heap.size + 1 = bt at K1 ⊢
  generalize hbf : w.heap.size = bf at K1 ⊢
  have HNE := Lib.hid (show bf ≠ bt by omega)
  have HBF0 := Lib.hid (show w.heap.size ≤ bf by omega)
  have HBT0 := Lib.hid (show w.heap.size ≤ bt by omega)
  have HZ1 := Lib.hid (show w.heap.size ≤ w1.heap.size from K1.out.below.size)
  have LFH := Lib.hid (show bf < w1.heap.size from (K1.out.at 1 rfl).lt)
  have LTH := Lib.hid (show bt < w1.heap.size from (K1.out.at 0 rfl).lt)
  clear hw1 hbt hbf
  go_upto_region 3 with fail
  go_loopw [4, 5] (fun o i wr => ∃ k : Nat, k ≤ n ∧ i = .int .i64 k ∧ Kn w [(bt, #[.int .i64 0, .int .i64 0, .slice none 0 0], 28), (bf, #[.int .i64 mo, .int .i64 li, .slice (some ⟨g, 0, none⟩) n cap], 28)] wr ∧ Own wr base 38 9 enC (.slice (some ⟨g, 0, none⟩) n cap) l ∧ Own wr w1.heap.size 38 9 enC o (tickL li (l.take k)) ∧ w1.heap.size ≤ wr.heap.size ∧ g < w1.heap.size) (fun _ i _ => n - (intOf i).toNat)
  case atStart => exact ⟨0, Nat.zero_le _, rfl, K1.out, H1.out, Own.nil _ _ _ _ _, Nat.le_refl _, (H1.out.lt g rfl).2⟩
  case round =>
    obtain ⟨k, hk, rfl, hkn, hsrc, hown, hsz, hg1⟩ := hrel
    have HK := Lib.hid hkn
    have HSrc := Lib.hid hsrc
    have HOwn := Lib.hid hown
    have HSZ := Lib.hid hsz
    have HG1 := Lib.hid hg1
    clear hkn hsrc hown hsz hg1 K1 H1
    have cS := (HK.out.at 1 rfl).cell 2
    simp only [List.getElem?_toArray, List.getElem?_cons_succ, List.getElem?_cons_zero] at cS
    have cL := (HK.out.at 1 rfl).cell 1
    simp only [List.getElem?_toArray, List.getElem?_cons_succ, List.getElem?_cons_zero] at cL
    by_cases hlt : k < n
    · obtain ⟨x, hx⟩ : ∃ x, l[k]? = some x := ⟨_, List.getElem?_eq_getElem (show k < l.length by rw [HN.out]; exact hlt)⟩
      have hlt' : (k : Int) < (n : Int) := by omega
      obtain ⟨ha0, ha1⟩ := HA.out x (List.mem_of_getElem? hx)
      have HRX := Lib.hid (show wr.rangeAt g (k * 9) (enA x).toList from fun i u hu => by
        have q := Own.at enC_len (by rw [HN.out]; exact HSrc.out) k i x hx (by have := (List.getElem?_eq_some_iff.1 hu).1; simpa using this)
        rw [q]
        exact hu)
      have HTK := Lib.hid (show tickL li (l.take (k + 1)) = if x.age + 1 < li then tickL li (l.take k) ++ [older x] else tickL li (l.take k) by rw [List.take_add_one, hx]; exact tickL_snoc li _ x)
      clear hx
      go_upto_region 7 with (first
        | (refine wpList_val (.agg (enA x)) (by rfl) (run_loadRange 38 _ rfl g (k * 9) rfl (enA x) _ HRX.out Try.underlying38 rfl enSize) ?_))
      obtain ⟨z, hz⟩ : ∃ z, z = older x := ⟨_, rfl⟩
      have HZ := Lib.hid hz
      obtain ⟨W, hW⟩ : ∃ W, W = wr.alloc (.cells (enA z) 38) := ⟨_, rfl⟩
      have bW : Below wr.heap.size wr W := by rw [hW]; exact (Below.refl _ _).alloc (Nat.le_refl _) _
      have hblk : Blk W wr.heap.size (enA z) 38 := by rw [hW]; exact Blk.new _ _ _
      rw [show wr.alloc (.cells #[.int .u16 (x.vid : Nat), .int .u8 (byteF x.mac 0 : Nat), .int .u8 (byteF x.mac 1 : Nat), .int .u8 (byteF x.mac 2 : Nat), .int .u8 (byteF x.mac 3 : Nat), .int .u8 (byteF x.mac 4 : Nat), .int .u8 (byteF x.mac 5 : Nat), .int .i64 x.port, .int .i64 (x.age + 1)] 38) = W from by rw [hW, hz]; rfl]
      have HK2 := Lib.hid (HK.out.next bW)
      have HSrc2 := Lib.hid (HSrc.out.next bW)
      have HOwn2 := Lib.hid (HOwn.out.next bW)
      have HSZ2 := Lib.hid (show w1.heap.size ≤ W.heap.size from Nat.le_trans HSZ.out bW.size)
      have HBK := Lib.hid hblk
      have cL2 := (HK2.out.at 1 rfl).cell 1
      simp only [List.getElem?_toArray, List.getElem?_cons_succ, List.getElem?_cons_zero] at cL2
      have c8 := hblk.cell 8
      simp only [List.getElem?_toArray, List.getElem?_cons_succ, List.getElem?_cons_zero] at c8
      have hza : z.age = x.age + 1 := by rw [hz]; rfl
      rw [← hza] at HTK ⊢
      have HXZ := Lib.hid hza
      generalize hc : wr.heap.size = c at hblk HBK c8 ⊢
      clear hW bW hblk hz cS cL hc hza
      by_cases hag : z.age < li
      · have HTK2 := Lib.hid (HTK.out.trans (if_pos hag))
        go_upto_region 8 with fail
        clear hag cL2 c8
        obtain ⟨W2, hW2⟩ : ∃ W2, W2 = W.alloc (.cells (enA z) 38) := ⟨_, rfl⟩
        have bW2 : Below W.heap.size W W2 := by rw [hW2]; exact (Below.refl _ _).alloc (Nat.le_refl _) _
        have s5 : Src W2 enC (.slice (some ⟨W.heap.size, 0, none⟩) 1 1) [z] := by
          have := (Own.lit (e := 38) (base := 0) W (Nat.zero_le _) enC_len [z] (by simp [maxLen])).src
          have e1 : (cellsL enC [z]).toArray = enA z := by simp [cellsL, enC]
          rw [e1, ← hW2] at this
          exact this
        obtain ⟨v6, w6, hrun, o6, hg6, hv6⟩ := enE.app (HOwn2.out.next bW2) s5 (by have := tickL_len li (l.take k); rw [List.length_take] at this; have := HL.out; have := HN.out; simp; omega) (Nat.le_trans HSZ2.out bW2.size) 26
        have B6 : Below w1.heap.size W2 w6 := (Below.refl _ _).grown hg6 (Nat.le_trans HSZ2.out bW2.size) (fun q hq => ((HOwn2.out.next bW2).lt q hq).1)
        have LF : bf < w1.heap.size := LFH.out
        have LT : bt < w1.heap.size := LTH.out
        have HK6 := Lib.hid (show Kn w [(bt, #[.int .i64 0, .int .i64 0, .slice none 0 0], 28), (bf, #[.int .i64 mo, .int .i64 li, .slice (some ⟨g, 0, none⟩) n cap], 28)] w6 from ⟨fun q hq => by
          have hh := (HK2.out.next bW2).all q hq
          simp only [List.mem_cons, List.not_mem_nil, or_false] at hq
          rcases hq with rfl | rfl
          · exact hh.below B6 LT
          · exact hh.below B6 LF, (HK2.out.next bW2).below.trans (B6.mono HZ1.out)⟩)
        have HS6 := Lib.hid ((HSrc2.out.next bW2).below B6 (fun q hq => by simp [Value.ownBlock] at hq; have := HG1.out; omega))
        have HO6 := Lib.hid o6
        have HZ6 := Lib.hid (show w1.heap.size ≤ w6.heap.size from Nat.le_trans (Nat.le_trans HSZ2.out bW2.size) B6.size)
        rw [hW2] at hrun
        clear hW2 bW2 s5 o6 hg6 hv6 B6 LF LT
        go_wp2_with (first
          | (refine wpList_load_row rfl 38 _ rfl c rfl 38 (enA z) (0, 0) _ HBK.out Try.underlying38 rfl enSize ?_)
          | (at_builtin; refine wpList_append_lst rfl _ _ 26 rfl v6 w6 hrun ?_))
        go_roundw
        case rel => exact ⟨k + 1, by omega, by go_num, HK6.out, HS6.out, by rw [HTK2.out, ← HZ.out]; exact HO6.out, HZ6.out, HG1.out⟩
        case measure => simp [intOf]; omega
      · have HTK2 := Lib.hid (HTK.out.trans (if_neg hag))
        go_wp2_with fail
        go_roundw
        case rel => exact ⟨k + 1, by omega, by go_num, HK2.out, HSrc2.out, by rw [HTK2.out]; exact HOwn2.out, HSZ2.out, HG1.out⟩
        case measure => simp [intOf]; omega
    · have hlt' : ¬ (k : Int) < (n : Int) := by omega
      obtain rfl : n = k := by omega
      clear hlt hk
      have o6 := HOwn.out
      have HST := Lib.hid (show (Instr.storeAt 26 (.pointer (some ⟨bf, 2, none⟩)) u4).run Try.prog wr = .ok () (wr.setCell ⟨bf, 2, none⟩ u4) by
        have c3 := (HK.out.at 1 rfl).cell 2
        simp only [List.getElem?_toArray, List.getElem?_cons_succ, List.getElem?_cons_zero] at c3
        have fr3 := (HK.out.at 1 rfl).free 2
        rcases o6.cases with ⟨hv, -⟩ | ⟨g3, q3, hv, -⟩
        · rw [hv]
          go_simp
        · obtain ⟨nn, hnn⟩ : ∃ nn, (tickL li (l.take n)).length = nn := ⟨_, rfl⟩
          rw [hv, hnn]
          go_simp)
      have HLEN := Lib.hid (show ∀ W : World, (Builtin.len_ #[26] 3 #[u4]).run Try.prog W = .ok (.int .i64 ((tickL li (l.take n)).length : Nat)) W by
        intro W
        rcases o6.cases with ⟨hv, q⟩ | ⟨g3, q3, hv, -⟩
        · rw [hv, q]
          go_simp
          try rfl
        · rw [hv]
          go_simp
          try rfl)
      have LF2 := Lib.hid (show bf < wr.heap.size from (HK.out.at 1 rfl).lt)
      have HQ := Lib.hid (show ∀ q, u4.ownBlock = some q → w1.heap.size ≤ q from fun q hq => (o6.lt q hq).1)
      have hlen2 := HLEN.out wr
      have cS := (HK.out.at 1 rfl).cell 2
      simp only [List.getElem?_toArray, List.getElem?_cons_succ, List.getElem?_cons_zero] at cS
      clear o6
      go_upto_region 11 with (first
        | (refine wpList_plain rfl fun _ hK => wp_store_cell 26 _ _ rfl ⟨bf, 2, none⟩ u4 rfl rfl HST.out (hK _ _ ?_)))
      have hbf2 : Blk (wr.setCell ⟨bf, 2, none⟩ u4) bf #[.int .i64 mo, .int .i64 li, u4] 28 := (HK.out.at 1 rfl).set 2 u4
      have hbt2 : Blk (wr.setCell ⟨bf, 2, none⟩ u4) bt #[.int .i64 0, .int .i64 0, .slice none 0 0] 28 := (HK.out.at 0 rfl).other (a := ⟨bf, 2, none⟩) (by have := HNE.out; simpa using this) u4
      have O7 := Lib.hid (HOwn.out.setCell (a := ⟨bf, 2, none⟩) (fun q => by have := HQ.out bf q; have := LFH.out; omega) u4)
      have B7 := Lib.hid (HK.out.below.setCell (show w.heap.size ≤ (⟨bf, 2, none⟩ : Addr).block from HBF0.out) u4)
      have hfd := fd_one mo li O7.out
      have HFD := Lib.hid hfd
      have RL := Lib.hid (show l.take n = l by rw [List.take_of_length_le]; rw [HN.out]; exact Nat.le_refl _)
      have HTL := tickL_len li (l.take n)
      rw [List.length_take, HN.out, Nat.min_self] at HTL
      have HWR := Lib.hid (show wrap64 ((n : Int) - ((tickL li (l.take n)).length : Nat)) = (n : Int) - ((tickL li l).length : Nat) by rw [IntWalk.wrap64_in _ (by omega), RL.out])
      rw [HWR.out]
      have HF2 := Lib.hid hbf2
      have HT2 := Lib.hid hbt2
      clear hbf2 hbt2 hfd hlen2 cS HTL
      generalize wr.setCell ⟨bf, 2, none⟩ u4 = W7 at *
      go_wp2_with (first
        | (refine wpList_load_row rfl 28 _ rfl bf rfl 28 #[.int .i64 mo, .int .i64 li, u4] (0, 0) _ HF2.out Try.underlying28 rfl fdSize ?_)
        | (refine wpList_store_row rfl 28 _ _ rfl bt #[.int .i64 mo, .int .i64 li, u4] rfl rfl 28 #[.int .i64 0, .int .i64 0, .slice none 0 0] HT2.out fdSize rfl HFD.out ?_))
      exact bodyPost_ret (v := .tuple #[.agg #[.int .i64 mo, .int .i64 li, u4], .int .i64 ((n : Int) - ((tickL li l).length : Nat))]) (results_row_tmp Try.results12 _ _ bt 28 #[.int .i64 mo, .int .i64 li, u4] _ _ rfl rfl (HT2.out.row _) Try.underlying28 rfl fdSize) rfl ⟨u4, rfl, by have q := O7.out; rw [RL.out] at q; exact Own.setRow (q.mono (Nat.le_trans HBASE.out HZ1.out)) (fun q => by have := HQ.out bt q; have := LTH.out; omega) _, below_setRow B7.out HBT0.out _⟩

set_option maxRecDepth 100000 in
set_option maxHeartbeats 8000000 in
theorem rtick9_nil (base : Nat) (mo li : Int) (w : World) (hb : base ≤ w.heap.size) :
    Calls Try.prog 12 #[.agg #[.int .i64 mo, .int .i64 li, .slice none 0 0]] w fun e w' => ∃ v', e = .returned (.tuple #[.agg #[.int .i64 mo, .int .i64 li, v'], .int .i64 0]) ∧ Own w' base 38 9 enC v' [] ∧ Below w.heap.size w w' := by
  have hb2 := ((Below.refl w.heap.size w).alloc (Nat.le_refl _) (.cells #[.int .i64 mo, .int .i64 li, .slice none 0 0] 28)).alloc (by simp) (.cells #[.int .i64 mo, .int .i64 li, .slice none 0 0] 28)
  have HB := Lib.hid hb2
  clear hb2
  go_enter Try.func12, Try.ntmps12
  go_wp2
  refine wp_loop_rounds 1 ?_
  rw [rounds_succ]
  go_wp2
  have q : Blk ((w.alloc (.cells #[.int .i64 mo, .int .i64 li, .slice none 0 0] 28)).alloc (.cells #[.int .i64 mo, .int .i64 li, .slice none 0 0] 28)) (w.heap.size + 1) #[.int .i64 mo, .int .i64 li, .slice none 0 0] 28 := by
    have := Blk.new (w.alloc (.cells #[.int .i64 mo, .int .i64 li, .slice none 0 0] 28)) #[.int .i64 mo, .int .i64 li, .slice none 0 0] 28
    rw [World.size_alloc] at this
    exact this
  exact bodyPost_ret (v := .tuple #[.agg #[.int .i64 mo, .int .i64 li, .slice none 0 0], .int .i64 0]) (results_row_tmp Try.results12 _ _ (w.heap.size + 1) 28 #[.int .i64 mo, .int .i64 li, .slice none 0 0] _ _ rfl rfl q Try.underlying28 rfl fdSize) rfl ⟨.slice none 0 0, rfl, Own.nil _ _ _ _ _, HB.out⟩

theorem rtick9 (base : Nat) (mo li : Int) (v : Value) (l : List En) (w : World) (h : Own w base 38 9 enC v l) (ha : ∀ x ∈ l, 0 ≤ x.age ∧ x.age ≤ 1000) (hb : base ≤ w.heap.size) (hl : l.length ≤ 100) :
    Calls Try.prog 12 #[.agg #[.int .i64 mo, .int .i64 li, v]] w fun e w' => ∃ v', e = .returned (.tuple #[.agg #[.int .i64 mo, .int .i64 li, v'], .int .i64 ((l.length : Int) - (tickL li l).length)]) ∧ Own w' base 38 9 enC v' (tickL li l) ∧ Below w.heap.size w w' := by
  rcases h.cases with ⟨rfl, rfl⟩ | ⟨g, cap, rfl, -, -, hc⟩
  · exact rtick9_nil base mo li w hb
  · exact rtick9_own base g cap mo li l w h hc ha hb hl
end Go.Proofs.Ytilklfmcdgggfaa
end
section
namespace Go.Proofs.Ytilklfmcdgggfaa
open Go.RowKit
set_option linter.unusedSimpArgs false
set_option linter.unusedVariables false

/-- What stays behind a flush of a port, or of a VLAN. -/
def stays (p : Int) (v : Nat) (x : En) : Bool := if 0 < p then decide (x.port ≠ p) else decide (x.vid ≠ v)
def flushL (p : Int) (v : Nat) (l : List En) : List En := l.filter (stays p v)
theorem flushL_snoc (p : Int) (v : Nat) (l : List En) (x : En) : flushL p v (l ++ [x]) = if stays p v x = true then flushL p v l ++ [x] else flushL p v l := by
  unfold flushL
  rw [List.filter_append]
  cases h : stays p v x <;> simp [h]
theorem flushL_len (p : Int) (v : Nat) (l : List En) : (flushL p v l).length ≤ l.length := List.length_filter_le _ _

set_option maxRecDepth 100000 in
set_option maxHeartbeats 16000000 in
theorem rflush9_own (base g cap : Nat) (mo li p : Int) (vid : Nat) (l : List En) (w : World) (h : Own w base 38 9 enC (.slice (some ⟨g, 0, none⟩) l.length cap) l) (hcap : l.length ≤ cap ∧ cap ≤ maxLen) (hb : base ≤ w.heap.size) (hl : l.length ≤ 100) :
    Calls Try.prog 14 #[.agg #[.int .i64 mo, .int .i64 li, .slice (some ⟨g, 0, none⟩) l.length cap], .int .i64 p, .int .u16 (vid : Nat)] w fun e w' => ∃ v', e = .returned (.tuple #[.agg #[.int .i64 mo, .int .i64 li, v'], .int .i64 ((l.length : Int) - (flushL p vid l).length)]) ∧ Own w' base 38 9 enC v' (flushL p vid l) ∧ Below w.heap.size w w' := by
  obtain ⟨n, hn⟩ : ∃ n, l.length = n := ⟨_, rfl⟩
  rw [hn] at h hcap hl ⊢
  have HN := Lib.hid hn
  have HCAP := Lib.hid hcap
  have HL := Lib.hid hl
  have HBASE := Lib.hid hb
  have hn2 : (n : Int) ≤ 100 := by omega
  have hnc : (n : Int) ≤ cap := by omega
  have K1 := Lib.hid (show Kn w [((w.alloc (.cells #[.int .i64 mo, .int .i64 li, .slice (some ⟨g, 0, none⟩) n cap] 28)).heap.size, #[.int .i64 0, .int .i64 0, .slice none 0 0], 28), (w.heap.size, #[.int .i64 mo, .int .i64 li, .slice (some ⟨g, 0, none⟩) n cap], 28)] ((w.alloc (.cells #[.int .i64 mo, .int .i64 li, .slice (some ⟨g, 0, none⟩) n cap] 28)).alloc (.cells #[.int .i64 0, .int .i64 0, .slice none 0 0] 28)) from ((Kn.nil w).alloc _ _).alloc _ _)
  have H1 := Lib.hid ((h.alloc (.cells #[.int .i64 mo, .int .i64 li, .slice (some ⟨g, 0, none⟩) n cap] 28)).alloc (.cells #[.int .i64 0, .int .i64 0, .slice none 0 0] 28))
  clear h hn hcap hl hb
  go_enter Try.func14, Try.ntmps14
  go_upto_region 1 with fail
  rw [World.size_alloc] at K1
  generalize hw1 : (w.alloc (.cells #[.int .i64 mo, .int .i64 li, .slice (some ⟨g, 0, none⟩) n cap] 28)).alloc (.cells #[.int .i64 0, .int .i64 0, .slice none 0 0] 28) = w1 at K1 H1 ⊢
  generalize hbt : w.heap.size + 1 = bt at K1 ⊢
  generalize hbf : w.heap.size = bf at K1 ⊢
  have HNE := Lib.hid (show bf ≠ bt by omega)
  have HBF0 := Lib.hid (show w.heap.size ≤ bf by omega)
  have HBT0 := Lib.hid (show w.heap.size ≤ bt by omega)
  have HZ1 := Lib.hid (show w.heap.size ≤ w1.heap.size from K1.out.below.size)
  have LFH := Lib.hid (show bf < w1.heap.size from (K1.out.at 1 rfl).lt)
  have LTH := Lib.hid (show bt < w1.heap.size from (K1.out.at 0 rfl).lt)
  clear hw1 hbt hbf
  go_upto_region 3 with fail
  go_loopw [8, 9] (fun o i wr => ∃ k : Nat, k ≤ n ∧ i = .int .i64 k ∧ Kn w [(bt, #[.int .i64 0, .int .i64 0, .slice none 0 0], 28), (bf, #[.int .i64 mo, .int .i64 li, .slice (some ⟨g, 0, none⟩) n cap], 28)] wr ∧ Own wr base 38 9 enC (.slice (some ⟨g, 0, none⟩) n cap) l ∧ Own wr w1.heap.size 38 9 enC o (flushL p vid (l.take k)) ∧ w1.heap.size ≤ wr.heap.size ∧ g < w1.heap.size) (fun _ i _ => n - (intOf i).toNat)
  case atStart => exact ⟨0, Nat.zero_le _, rfl, K1.out, H1.out, Own.nil _ _ _ _ _, Nat.le_refl _, (H1.out.lt g rfl).2⟩
  case round =>
    obtain ⟨k, hk, rfl, hkn, hsrc, hown, hsz, hg1⟩ := hrel
    have HK := Lib.hid hkn
    have HSrc := Lib.hid hsrc
    have HOwn := Lib.hid hown
    have HSZ := Lib.hid hsz
    have HG1 := Lib.hid hg1
    clear hkn hsrc hown hsz hg1 K1 H1
    have cS := (HK.out.at 1 rfl).cell 2
    simp only [List.getElem?_toArray, List.getElem?_cons_succ, List.getElem?_cons_zero] at cS
    have cL := (HK.out.at 1 rfl).cell 1
    simp only [List.getElem?_toArray, List.getElem?_cons_succ, List.getElem?_cons_zero] at cL
    by_cases hlt : k < n
    · obtain ⟨x, hx⟩ : ∃ x, l[k]? = some x := ⟨_, List.getElem?_eq_getElem (show k < l.length by rw [HN.out]; exact hlt)⟩
      have hlt' : (k : Int) < (n : Int) := by omega
      have HRX := Lib.hid (show wr.rangeAt g (k * 9) (enA x).toList from fun i u hu => by
        have q := Own.at enC_len (by rw [HN.out]; exact HSrc.out) k i x hx (by have := (List.getElem?_eq_some_iff.1 hu).1; simpa using this)
        rw [q]
        exact hu)
      have HTK := Lib.hid (show flushL p vid (l.take (k + 1)) = if stays p vid x = true then flushL p vid (l.take k) ++ [x] else flushL p vid (l.take k) by rw [List.take_add_one, hx]; exact flushL_snoc p vid _ x)
      have cP : wr.cell? ⟨g, k * 9 + 7, none⟩ = some (.int .i64 x.port) := Own.at enC_len (by rw [HN.out]; exact HSrc.out) k 7 x hx (by omega)
      have cV : wr.cell? ⟨g, k * 9, none⟩ = some (.int .u16 (x.vid : Nat)) := Own.at enC_len (by rw [HN.out]; exact HSrc.out) k 0 x hx (by omega)
      clear hx
      by_cases hp : 0 < p
      · have e1 : decide (0 < p) = true := decide_eq_true hp
        have e3 : decide (p ≤ 0) = false := decide_eq_false (by omega)
        by_cases hq : x.port = p
        · have e2 : (x.port != p) = false := by simpa using hq
          have HTK2 := Lib.hid (HTK.out.trans (if_neg (show ¬ stays p vid x = true by unfold stays; rw [if_pos hp]; simp [hq])))
          clear hp hq
          go_wp2_with fail
          go_roundw
          case rel => exact ⟨k + 1, by omega, by go_num, HK.out, HSrc.out, by rw [HTK2.out]; exact HOwn.out, HSZ.out, HG1.out⟩
          case measure => simp [intOf]; omega
        · have e2 : (x.port != p) = true := by simpa using hq
          have HTK2 := Lib.hid (HTK.out.trans (if_pos (show stays p vid x = true by unfold stays; rw [if_pos hp]; simp [hq])))
          clear hp hq
          go_upto_region 6 with fail
          obtain ⟨W2, hW2⟩ : ∃ W2, W2 = wr.alloc (.cells (enA x) 38) := ⟨_, rfl⟩
          have bW2 : Below wr.heap.size wr W2 := by rw [hW2]; exact (Below.refl _ _).alloc (Nat.le_refl _) _
          have s5 : Src W2 enC (.slice (some ⟨wr.heap.size, 0, none⟩) 1 1) [x] := by
            have := (Own.lit (e := 38) (base := 0) wr (Nat.zero_le _) enC_len [x] (by simp [maxLen])).src
            have e1 : (cellsL enC [x]).toArray = enA x := by simp [cellsL, enC]
            rw [e1, ← hW2] at this
            exact this
          obtain ⟨v6, w6, hrun, o6, hg6, hv6⟩ := enE.app (HOwn.out.next bW2) s5 (by have := flushL_len p vid (l.take k); rw [List.length_take] at this; have := HL.out; have := HN.out; simp; omega) (Nat.le_trans HSZ.out bW2.size) 26
          have B6 : Below w1.heap.size W2 w6 := (Below.refl _ _).grown hg6 (Nat.le_trans HSZ.out bW2.size) (fun q hq => ((HOwn.out.next bW2).lt q hq).1)
          have LF : bf < w1.heap.size := LFH.out
          have LT : bt < w1.heap.size := LTH.out
          have HK6 := Lib.hid (show Kn w [(bt, #[.int .i64 0, .int .i64 0, .slice none 0 0], 28), (bf, #[.int .i64 mo, .int .i64 li, .slice (some ⟨g, 0, none⟩) n cap], 28)] w6 from ⟨fun q hq => by
            have hh := (HK.out.next bW2).all q hq
            simp only [List.mem_cons, List.not_mem_nil, or_false] at hq
            rcases hq with rfl | rfl
            · exact hh.below B6 LT
            · exact hh.below B6 LF, (HK.out.next bW2).below.trans (B6.mono HZ1.out)⟩)
          have HS6 := Lib.hid ((HSrc.out.next bW2).below B6 (fun q hq => by simp [Value.ownBlock] at hq; have := HG1.out; omega))
          have HO6 := Lib.hid o6
          have HZ6 := Lib.hid (show w1.heap.size ≤ w6.heap.size from Nat.le_trans (Nat.le_trans HSZ.out bW2.size) B6.size)
          rw [hW2] at hrun
          clear hW2 bW2 s5 o6 hg6 hv6 B6 LF LT
          go_wp2_with (first
            | (refine wpList_val (.agg (enA x)) (by rfl) (run_loadRange 38 _ rfl g (k * 9) rfl (enA x) _ HRX.out Try.underlying38 rfl enSize) ?_)
            | (at_builtin; refine wpList_append_lst rfl _ _ 26 rfl v6 w6 hrun ?_))
          go_roundw
          case rel => exact ⟨k + 1, by omega, by go_num, HK6.out, HS6.out, by rw [HTK2.out]; exact HO6.out, HZ6.out, HG1.out⟩
          case measure => simp [intOf]; omega
      · have e1 : decide (0 < p) = false := decide_eq_false hp
        have e3 : decide (p ≤ 0) = true := by rw [decide_eq_true_eq]; omega
        by_cases hq : x.vid = vid
        · have e2 : ((x.vid : Int) != (vid : Int)) = false := by rw [hq]; simp
          have HTK2 := Lib.hid (HTK.out.trans (if_neg (show ¬ stays p vid x = true by unfold stays; rw [if_neg hp]; simp [hq])))
          clear hp hq
          go_wp2_with fail
          go_roundw
          case rel => exact ⟨k + 1, by omega, by go_num, HK.out, HSrc.out, by rw [HTK2.out]; exact HOwn.out, HSZ.out, HG1.out⟩
          case measure => simp [intOf]; omega
        · have e2 : ((x.vid : Int) != (vid : Int)) = true := by simp; omega
          have HTK2 := Lib.hid (HTK.out.trans (if_pos (show stays p vid x = true by unfold stays; rw [if_neg hp]; simp [hq])))
          clear hp hq
          go_upto_region 6 with fail
          obtain ⟨W2, hW2⟩ : ∃ W2, W2 = wr.alloc (.cells (enA x) 38) := ⟨_, rfl⟩
          have bW2 : Below wr.heap.size wr W2 := by rw [hW2]; exact (Below.refl _ _).alloc (Nat.le_refl _) _
          have s5 : Src W2 enC (.slice (some ⟨wr.heap.size, 0, none⟩) 1 1) [x] := by
            have := (Own.lit (e := 38) (base := 0) wr (Nat.zero_le _) enC_len [x] (by simp [maxLen])).src
            have e1 : (cellsL enC [x]).toArray = enA x := by simp [cellsL, enC]
            rw [e1, ← hW2] at this
            exact this
          obtain ⟨v6, w6, hrun, o6, hg6, hv6⟩ := enE.app (HOwn.out.next bW2) s5 (by have := flushL_len p vid (l.take k); rw [List.length_take] at this; have := HL.out; have := HN.out; simp; omega) (Nat.le_trans HSZ.out bW2.size) 26
          have B6 : Below w1.heap.size W2 w6 := (Below.refl _ _).grown hg6 (Nat.le_trans HSZ.out bW2.size) (fun q hq => ((HOwn.out.next bW2).lt q hq).1)
          have LF : bf < w1.heap.size := LFH.out
          have LT : bt < w1.heap.size := LTH.out
          have HK6 := Lib.hid (show Kn w [(bt, #[.int .i64 0, .int .i64 0, .slice none 0 0], 28), (bf, #[.int .i64 mo, .int .i64 li, .slice (some ⟨g, 0, none⟩) n cap], 28)] w6 from ⟨fun q hq => by
            have hh := (HK.out.next bW2).all q hq
            simp only [List.mem_cons, List.not_mem_nil, or_false] at hq
            rcases hq with rfl | rfl
            · exact hh.below B6 LT
            · exact hh.below B6 LF, (HK.out.next bW2).below.trans (B6.mono HZ1.out)⟩)
          have HS6 := Lib.hid ((HSrc.out.next bW2).below B6 (fun q hq => by simp [Value.ownBlock] at hq; have := HG1.out; omega))
          have HO6 := Lib.hid o6
          have HZ6 := Lib.hid (show w1.heap.size ≤ w6.heap.size from Nat.le_trans (Nat.le_trans HSZ.out bW2.size) B6.size)
          rw [hW2] at hrun
          clear hW2 bW2 s5 o6 hg6 hv6 B6 LF LT
          go_wp2_with (first
            | (refine wpList_val (.agg (enA x)) (by rfl) (run_loadRange 38 _ rfl g (k * 9) rfl (enA x) _ HRX.out Try.underlying38 rfl enSize) ?_)
            | (at_builtin; refine wpList_append_lst rfl _ _ 26 rfl v6 w6 hrun ?_))
          go_roundw
          case rel => exact ⟨k + 1, by omega, by go_num, HK6.out, HS6.out, by rw [HTK2.out]; exact HO6.out, HZ6.out, HG1.out⟩
          case measure => simp [intOf]; omega
    · have hlt' : ¬ (k : Int) < (n : Int) := by omega
      obtain rfl : n = k := by omega
      clear hlt hk
      have o6 := HOwn.out
      have HST := Lib.hid (show (Instr.storeAt 26 (.pointer (some ⟨bf, 2, none⟩)) u8).run Try.prog wr = .ok () (wr.setCell ⟨bf, 2, none⟩ u8) by
        have c3 := (HK.out.at 1 rfl).cell 2
        simp only [List.getElem?_toArray, List.getElem?_cons_succ, List.getElem?_cons_zero] at c3
        have fr3 := (HK.out.at 1 rfl).free 2
        rcases o6.cases with ⟨hv, -⟩ | ⟨g3, q3, hv, -⟩
        · rw [hv]
          go_simp
        · obtain ⟨nn, hnn⟩ : ∃ nn, (flushL p vid (l.take n)).length = nn := ⟨_, rfl⟩
          rw [hv, hnn]
          go_simp)
      have HLEN := Lib.hid (show ∀ W : World, (Builtin.len_ #[26] 3 #[u8]).run Try.prog W = .ok (.int .i64 ((flushL p vid (l.take n)).length : Nat)) W by
        intro W
        rcases o6.cases with ⟨hv, q⟩ | ⟨g3, q3, hv, -⟩
        · rw [hv, q]
          go_simp
          try rfl
        · rw [hv]
          go_simp
          try rfl)
      have LF2 := Lib.hid (show bf < wr.heap.size from (HK.out.at 1 rfl).lt)
      have HQ := Lib.hid (show ∀ q, u8.ownBlock = some q → w1.heap.size ≤ q from fun q hq => (o6.lt q hq).1)
      have hlen2 := HLEN.out wr
      have cS := (HK.out.at 1 rfl).cell 2
      simp only [List.getElem?_toArray, List.getElem?_cons_succ, List.getElem?_cons_zero] at cS
      clear o6
      go_upto_region 9 with (first
        | (refine wpList_plain rfl fun _ hK => wp_store_cell 26 _ _ rfl ⟨bf, 2, none⟩ u8 rfl rfl HST.out (hK _ _ ?_)))
      have hbf2 : Blk (wr.setCell ⟨bf, 2, none⟩ u8) bf #[.int .i64 mo, .int .i64 li, u8] 28 := (HK.out.at 1 rfl).set 2 u8
      have hbt2 : Blk (wr.setCell ⟨bf, 2, none⟩ u8) bt #[.int .i64 0, .int .i64 0, .slice none 0 0] 28 := (HK.out.at 0 rfl).other (a := ⟨bf, 2, none⟩) (by have := HNE.out; simpa using this) u8
      have O7 := Lib.hid (HOwn.out.setCell (a := ⟨bf, 2, none⟩) (fun q => by have := HQ.out bf q; have := LFH.out; omega) u8)
      have B7 := Lib.hid (HK.out.below.setCell (show w.heap.size ≤ (⟨bf, 2, none⟩ : Addr).block from HBF0.out) u8)
      have hfd := fd_one mo li O7.out
      have HFD := Lib.hid hfd
      have RL := Lib.hid (show l.take n = l by rw [List.take_of_length_le]; rw [HN.out]; exact Nat.le_refl _)
      have HTL := flushL_len p vid (l.take n)
      rw [List.length_take, HN.out, Nat.min_self] at HTL
      have HWR := Lib.hid (show wrap64 ((n : Int) - ((flushL p vid (l.take n)).length : Nat)) = (n : Int) - ((flushL p vid l).length : Nat) by rw [IntWalk.wrap64_in _ (by omega), RL.out])
      rw [HWR.out]
      have HF2 := Lib.hid hbf2
      have HT2 := Lib.hid hbt2
      clear hbf2 hbt2 hfd hlen2 cS HTL
      generalize wr.setCell ⟨bf, 2, none⟩ u8 = W7 at *
      go_wp2_with (first
        | (refine wpList_load_row rfl 28 _ rfl bf rfl 28 #[.int .i64 mo, .int .i64 li, u8] (0, 0) _ HF2.out Try.underlying28 rfl fdSize ?_)
        | (refine wpList_store_row rfl 28 _ _ rfl bt #[.int .i64 mo, .int .i64 li, u8] rfl rfl 28 #[.int .i64 0, .int .i64 0, .slice none 0 0] HT2.out fdSize rfl HFD.out ?_))
      exact bodyPost_ret (v := .tuple #[.agg #[.int .i64 mo, .int .i64 li, u8], .int .i64 ((n : Int) - ((flushL p vid l).length : Nat))]) (results_row_tmp Try.results14 _ _ bt 28 #[.int .i64 mo, .int .i64 li, u8] _ _ rfl rfl (HT2.out.row _) Try.underlying28 rfl fdSize) rfl ⟨u8, rfl, by have q := O7.out; rw [RL.out] at q; exact Own.setRow (q.mono (Nat.le_trans HBASE.out HZ1.out)) (fun q => by have := HQ.out bt q; have := LTH.out; omega) _, below_setRow B7.out HBT0.out _⟩

set_option maxRecDepth 100000 in
set_option maxHeartbeats 8000000 in
theorem rflush9_nil (base : Nat) (mo li p : Int) (vid : Nat) (w : World) (hb : base ≤ w.heap.size) :
    Calls Try.prog 14 #[.agg #[.int .i64 mo, .int .i64 li, .slice none 0 0], .int .i64 p, .int .u16 (vid : Nat)] w fun e w' => ∃ v', e = .returned (.tuple #[.agg #[.int .i64 mo, .int .i64 li, v'], .int .i64 0]) ∧ Own w' base 38 9 enC v' [] ∧ Below w.heap.size w w' := by
  have hb2 := ((Below.refl w.heap.size w).alloc (Nat.le_refl _) (.cells #[.int .i64 mo, .int .i64 li, .slice none 0 0] 28)).alloc (by simp) (.cells #[.int .i64 mo, .int .i64 li, .slice none 0 0] 28)
  have HB := Lib.hid hb2
  clear hb2
  go_enter Try.func14, Try.ntmps14
  go_wp2
  refine wp_loop_rounds 1 ?_
  rw [rounds_succ]
  go_wp2
  have q : Blk ((w.alloc (.cells #[.int .i64 mo, .int .i64 li, .slice none 0 0] 28)).alloc (.cells #[.int .i64 mo, .int .i64 li, .slice none 0 0] 28)) (w.heap.size + 1) #[.int .i64 mo, .int .i64 li, .slice none 0 0] 28 := by
    have := Blk.new (w.alloc (.cells #[.int .i64 mo, .int .i64 li, .slice none 0 0] 28)) #[.int .i64 mo, .int .i64 li, .slice none 0 0] 28
    rw [World.size_alloc] at this
    exact this
  exact bodyPost_ret (v := .tuple #[.agg #[.int .i64 mo, .int .i64 li, .slice none 0 0], .int .i64 0]) (results_row_tmp Try.results14 _ _ (w.heap.size + 1) 28 #[.int .i64 mo, .int .i64 li, .slice none 0 0] _ _ rfl rfl q Try.underlying28 rfl fdSize) rfl ⟨.slice none 0 0, rfl, Own.nil _ _ _ _ _, HB.out⟩

theorem rflush9 (base : Nat) (mo li p : Int) (vid : Nat) (v : Value) (l : List En) (w : World) (h : Own w base 38 9 enC v l) (hb : base ≤ w.heap.size) (hl : l.length ≤ 100) :
    Calls Try.prog 14 #[.agg #[.int .i64 mo, .int .i64 li, v], .int .i64 p, .int .u16 (vid : Nat)] w fun e w' => ∃ v', e = .returned (.tuple #[.agg #[.int .i64 mo, .int .i64 li, v'], .int .i64 ((l.length : Int) - (flushL p vid l).length)]) ∧ Own w' base 38 9 enC v' (flushL p vid l) ∧ Below w.heap.size w w' := by
  rcases h.cases with ⟨rfl, rfl⟩ | ⟨g, cap, rfl, -, -, hc⟩
  · exact rflush9_nil base mo li p vid w hb
  · exact rflush9_own base g cap mo li p vid l w h hc hb hl
end Go.Proofs.Ytilklfmcdgggfaa
end
section
namespace Go.Proofs.Ytilklfmcdgggfaa
open Go.RowKit
set_option linter.unusedSimpArgs false
set_option linter.unusedVariables false

def clampI (hi x : Int) : Int := if x < 1 then 1 else if hi < x then hi else x

set_option maxRecDepth 100000 in
set_option maxHeartbeats 8000000 in
theorem rnew9 (mo li : Int) (w : World) :
    Calls Try.prog 10 #[.int .i64 mo, .int .i64 li] w fun e w' => e = .returned (.agg #[.int .i64 (clampI 64 mo), .int .i64 (clampI 1000 li), .slice none 0 0]) ∧ Below w.heap.size w w' := by
  obtain ⟨cm, hcm⟩ : ∃ cm, cm = clampI 64 mo := ⟨_, rfl⟩
  obtain ⟨cl, hcl⟩ : ∃ cl, cl = clampI 1000 li := ⟨_, rfl⟩
  rw [← hcm, ← hcl]
  have HB := Lib.hid (show ∀ c : Array Value, Below w.heap.size w (w.alloc (.cells c 28)) from fun c => (Below.refl w.heap.size w).alloc (Nat.le_refl _) _)
  have M : (decide (mo < 1) = true ∧ cm = 1) ∨ (decide (mo < 1) = false ∧ decide (64 < mo) = true ∧ cm = 64) ∨ (decide (mo < 1) = false ∧ decide (64 < mo) = false ∧ cm = mo) := by
    rw [hcm]; unfold clampI
    by_cases h1 : mo < 1
    · left; exact ⟨decide_eq_true h1, if_pos h1⟩
    · right
      by_cases h2 : 64 < mo
      · left; exact ⟨decide_eq_false h1, decide_eq_true h2, by rw [if_neg h1, if_pos h2]⟩
      · right; exact ⟨decide_eq_false h1, decide_eq_false h2, by rw [if_neg h1, if_neg h2]⟩
  have L : (decide (li < 1) = true ∧ cl = 1) ∨ (decide (li < 1) = false ∧ decide (1000 < li) = true ∧ cl = 1000) ∨ (decide (li < 1) = false ∧ decide (1000 < li) = false ∧ cl = li) := by
    rw [hcl]; unfold clampI
    by_cases h1 : li < 1
    · left; exact ⟨decide_eq_true h1, if_pos h1⟩
    · right
      by_cases h2 : 1000 < li
      · left; exact ⟨decide_eq_false h1, decide_eq_true h2, by rw [if_neg h1, if_pos h2]⟩
      · right; exact ⟨decide_eq_false h1, decide_eq_false h2, by rw [if_neg h1, if_neg h2]⟩
  clear hcm hcl
  rcases M with ⟨m1, rfl⟩ | ⟨m1, m2, rfl⟩ | ⟨m1, m2, rfl⟩
  all_goals
    rcases L with ⟨l1, rfl⟩ | ⟨l1, l2, rfl⟩ | ⟨l1, l2, rfl⟩
  all_goals
    go_enter Try.func10, Try.ntmps10
    go_wp2
    exact bodyPost_ret (v := .agg _) (results_cell_row Try.results10 _ _ w.heap.size 28 _ (0, 0) _ rfl (Blk.new _ _ _) Try.underlying28 rfl fdSize) rfl ⟨rfl, HB.out _⟩
end Go.Proofs.Ytilklfmcdgggfaa
end
section
namespace Go.Proofs.Ytilklfmcdgggfaa
open Go.RowKit
set_option linter.unusedSimpArgs false
set_option linter.unusedVariables false

/-- What Put makes of a list: whether it was put. -/
def putE (mo li : Int) (l : List En) (x : En) : List En × Bool :=
  if goodE x = true ∧ 0 ≤ x.age ∧ x.age < li ∧ ¬ (atK enK (enK x) l < 0 ∧ mo ≤ (l.length : Nat)) then (putEn l x, true) else (l, false)

set_option maxRecDepth 100000 in
set_option maxHeartbeats 16000000 in
theorem rPut9 (base : Nat) (mo li : Int) (v0 : Value) (l : List En) (x : En) (w : World) (h : Own w base 38 9 enC v0 l) (hok : ∀ y ∈ l, enOk y) (hx : enOk x) (hb : base ≤ w.heap.size) (hl : l.length ≤ 100) :
    Calls Try.prog 16 #[.agg #[.int .i64 mo, .int .i64 li, v0], enV x] w fun e w' => ∃ v', e = .returned (.tuple #[.agg #[.int .i64 mo, .int .i64 li, v'], .bool (putE mo li l x).2]) ∧ Own w' base 38 9 enC v' (putE mo li l x).1 ∧ Below w.heap.size w w' := by
  obtain ⟨p, n, cap, rfl, hn⟩ : ∃ p n cap, v0 = .slice p n cap ∧ n = l.length := by
    rcases h.cases with ⟨rfl, rfl⟩ | ⟨g, cap, rfl, -⟩
    · exact ⟨none, 0, 0, rfl, rfl⟩
    · exact ⟨_, _, _, rfl, rfl⟩
  have HONE := Lib.hid (fd_one mo li h)
  have HN := Lib.hid hn
  have HXO := Lib.hid hx
  have HOK := Lib.hid hok
  have HL := Lib.hid hl
  have HBASE := Lib.hid hb
  have HOW := Lib.hid (show ∀ W : World, Below w.heap.size w W → Own W base 38 9 enC (.slice p n cap) l from fun W q => h.next q)
  have K1 := (((Kn.nil w).alloc #[.int .i64 mo, .int .i64 li, .slice p n cap] 28).alloc (enA x) 38).alloc #[.int .i64 0, .int .i64 0, .slice none 0 0] 28
  have O1 : Own (((w.alloc (.cells #[.int .i64 mo, .int .i64 li, .slice p n cap] 28)).alloc (.cells (enA x) 38)).alloc (.cells #[.int .i64 0, .int .i64 0, .slice none 0 0] 28)) 0 38 9 enC (.slice p n cap) l := (((h.alloc _).alloc _).alloc _).mono (Nat.zero_le _)
  rw [World.size_alloc, World.size_alloc] at K1
  have S1 := Lib.hid (show P9 w w.heap.size (w.heap.size + 1) (w.heap.size + 1 + 1) mo li (.slice p n cap) x l (((w.alloc (.cells #[.int .i64 mo, .int .i64 li, .slice p n cap] 28)).alloc (.cells (enA x) 38)).alloc (.cells #[.int .i64 0, .int .i64 0, .slice none 0 0] 28)) from ⟨K1, O1⟩)
  have HLT := Lib.hid (show ∀ q, (Value.slice p n cap).ownBlock = some q → q < w.heap.size from fun q hq => (h.lt q hq).2)
  have HAT0 := Lib.hid (show ∀ W, Own W 0 38 9 enC (.slice p n cap) l → Calls Try.prog 19 #[.agg #[.int .i64 mo, .int .i64 li, .slice p n cap], .int .u16 (x.vid : Nat), mac (byteF x.mac)] W fun e w' => e = .returned (.int .i64 (atK enK (enK x) l)) ∧ Below W.heap.size W w' from fun W o => rat9_any 0 x.vid x.mac hx mo li (.slice p n cap) l W o hok (by omega))
  clear K1 O1 hx hb hok hl h hn
  go_enter Try.func16, Try.ntmps16
  go_upto_region 1 with fail
  generalize hw1 : (((w.alloc (.cells #[.int .i64 mo, .int .i64 li, .slice p n cap] 28)).alloc (.cells (enA x) 38)).alloc (.cells #[.int .i64 0, .int .i64 0, .slice none 0 0] 28)) = w1 at S1 ⊢
  have HB0 := Lib.hid (show w.heap.size ≤ w.heap.size ∧ w.heap.size ≤ w.heap.size + 1 + 1 by omega)
  generalize hbt : w.heap.size + 1 + 1 = bt at S1 HB0 ⊢
  generalize hbe : w.heap.size + 1 = be at S1 HB0 ⊢
  generalize hbf : w.heap.size = bf at S1 ⊢
  have HBT0 := Lib.hid (show w.heap.size ≤ bt from HB0.out.2)
  have HNB := Lib.hid (show (Value.slice p n cap).ownBlock ≠ some bt from fun q => by have := HLT.out bt q; have := HBT0.out; omega)
  clear hw1 hbt hbe hbf HB0 HLT
  cases hg : goodE x with
  | false =>
    have HGD := Lib.hid (show ∀ W, Calls Try.prog 41 #[enV x] W fun e w' => e = .returned (.bool false) ∧ Below W.heap.size W w' from fun W => by rw [← hg]; exact rgood9 x W)
    have HE1 := Lib.hid (S1.out.kn.at 1 rfl)
    go_upto_region 2 with (first
      | (refine wpList_load_row rfl 38 _ rfl be rfl 38 (enA x) (0, 0) _ HE1.out Try.underlying38 rfl enSize ?_))
    go_at_call 41
    refine (HGD.out _).mono ?_
    rintro e w2 ⟨rfl, hb2⟩
    have S2 := Lib.hid (S1.out.next hb2)
    have cA2 := (S2.out.kn.at 1 rfl).cell 8
    simp only [enA, List.getElem?_toArray, List.getElem?_cons_succ, List.getElem?_cons_zero] at cA2
    have cL2 := (S2.out.kn.at 2 rfl).cell 1
    simp only [List.getElem?_toArray, List.getElem?_cons_succ, List.getElem?_cons_zero] at cL2
    go_upto_region 2 with fail
    have HT := Lib.hid (S2.out.kn.at 0 rfl)
    have HF := Lib.hid (S2.out.kn.at 2 rfl)
    go_wp2_with (first
      | (refine wpList_load_row rfl 28 _ rfl bf rfl 28 #[.int .i64 mo, .int .i64 li, .slice p n cap] (0, 0) _ HF.out Try.underlying28 rfl fdSize ?_)
      | (refine wpList_store_row rfl 28 _ _ rfl bt #[.int .i64 mo, .int .i64 li, .slice p n cap] rfl rfl 28 #[.int .i64 0, .int .i64 0, .slice none 0 0] HT.out fdSize rfl HONE.out ?_))
    have R := Lib.hid (show putE mo li l x = (l, false) from if_neg (by rintro ⟨q, -⟩; rw [hg] at q; cases q))
    rw [R.out]
    exact bodyPost_ret (v := .tuple #[.agg #[.int .i64 mo, .int .i64 li, .slice p n cap], .bool false]) (results_row_tmp Try.results16 _ _ bt 28 #[.int .i64 mo, .int .i64 li, .slice p n cap] _ _ rfl rfl (HT.out.row _) Try.underlying28 rfl fdSize) rfl ⟨.slice p n cap, rfl, Own.setRow (HOW.out _ (S2.out.kn.below)) HNB.out _, below_setRow (S2.out.kn.below) HBT0.out _⟩
  | true =>
    have HGD := Lib.hid (show ∀ W, Calls Try.prog 41 #[enV x] W fun e w' => e = .returned (.bool true) ∧ Below W.heap.size W w' from fun W => by rw [← hg]; exact rgood9 x W)
    have HG := Lib.hid hg
    clear hg
    by_cases ha : x.age < 0
    · have e1 : decide (x.age < 0) = true := decide_eq_true ha
      have HA := Lib.hid ha
      clear ha
      have HE1 := Lib.hid (S1.out.kn.at 1 rfl)
      go_upto_region 2 with (first
        | (refine wpList_load_row rfl 38 _ rfl be rfl 38 (enA x) (0, 0) _ HE1.out Try.underlying38 rfl enSize ?_))
      go_at_call 41
      refine (HGD.out _).mono ?_
      rintro e w2 ⟨rfl, hb2⟩
      have S2 := Lib.hid (S1.out.next hb2)
      have cA2 := (S2.out.kn.at 1 rfl).cell 8
      simp only [enA, List.getElem?_toArray, List.getElem?_cons_succ, List.getElem?_cons_zero] at cA2
      have cL2 := (S2.out.kn.at 2 rfl).cell 1
      simp only [List.getElem?_toArray, List.getElem?_cons_succ, List.getElem?_cons_zero] at cL2
      go_upto_region 2 with fail
      have HT := Lib.hid (S2.out.kn.at 0 rfl)
      have HF := Lib.hid (S2.out.kn.at 2 rfl)
      go_wp2_with (first
        | (refine wpList_load_row rfl 28 _ rfl bf rfl 28 #[.int .i64 mo, .int .i64 li, .slice p n cap] (0, 0) _ HF.out Try.underlying28 rfl fdSize ?_)
        | (refine wpList_store_row rfl 28 _ _ rfl bt #[.int .i64 mo, .int .i64 li, .slice p n cap] rfl rfl 28 #[.int .i64 0, .int .i64 0, .slice none 0 0] HT.out fdSize rfl HONE.out ?_))
      have R := Lib.hid (show putE mo li l x = (l, false) from if_neg (by rintro ⟨-, q, -⟩; have := HA.out; omega))
      rw [R.out]
      exact bodyPost_ret (v := .tuple #[.agg #[.int .i64 mo, .int .i64 li, .slice p n cap], .bool false]) (results_row_tmp Try.results16 _ _ bt 28 #[.int .i64 mo, .int .i64 li, .slice p n cap] _ _ rfl rfl (HT.out.row _) Try.underlying28 rfl fdSize) rfl ⟨.slice p n cap, rfl, Own.setRow (HOW.out _ (S2.out.kn.below)) HNB.out _, below_setRow (S2.out.kn.below) HBT0.out _⟩
    · have e1 : decide (x.age < 0) = false := decide_eq_false ha
      have HA := Lib.hid ha
      clear ha
      by_cases hc : li ≤ x.age
      · have e2 : decide (li ≤ x.age) = true := decide_eq_true hc
        have HC := Lib.hid hc
        clear hc
        have HE1 := Lib.hid (S1.out.kn.at 1 rfl)
        go_upto_region 2 with (first
          | (refine wpList_load_row rfl 38 _ rfl be rfl 38 (enA x) (0, 0) _ HE1.out Try.underlying38 rfl enSize ?_))
        go_at_call 41
        refine (HGD.out _).mono ?_
        rintro e w2 ⟨rfl, hb2⟩
        have S2 := Lib.hid (S1.out.next hb2)
        have cA2 := (S2.out.kn.at 1 rfl).cell 8
        simp only [enA, List.getElem?_toArray, List.getElem?_cons_succ, List.getElem?_cons_zero] at cA2
        have cL2 := (S2.out.kn.at 2 rfl).cell 1
        simp only [List.getElem?_toArray, List.getElem?_cons_succ, List.getElem?_cons_zero] at cL2
        go_upto_region 2 with fail
        have HT := Lib.hid (S2.out.kn.at 0 rfl)
        have HF := Lib.hid (S2.out.kn.at 2 rfl)
        go_wp2_with (first
          | (refine wpList_load_row rfl 28 _ rfl bf rfl 28 #[.int .i64 mo, .int .i64 li, .slice p n cap] (0, 0) _ HF.out Try.underlying28 rfl fdSize ?_)
          | (refine wpList_store_row rfl 28 _ _ rfl bt #[.int .i64 mo, .int .i64 li, .slice p n cap] rfl rfl 28 #[.int .i64 0, .int .i64 0, .slice none 0 0] HT.out fdSize rfl HONE.out ?_))
        have R := Lib.hid (show putE mo li l x = (l, false) from if_neg (by rintro ⟨-, -, q, -⟩; have := HC.out; omega))
        rw [R.out]
        exact bodyPost_ret (v := .tuple #[.agg #[.int .i64 mo, .int .i64 li, .slice p n cap], .bool false]) (results_row_tmp Try.results16 _ _ bt 28 #[.int .i64 mo, .int .i64 li, .slice p n cap] _ _ rfl rfl (HT.out.row _) Try.underlying28 rfl fdSize) rfl ⟨.slice p n cap, rfl, Own.setRow (HOW.out _ (S2.out.kn.below)) HNB.out _, below_setRow (S2.out.kn.below) HBT0.out _⟩
      · have e2 : decide (li ≤ x.age) = false := decide_eq_false hc
        have HC := Lib.hid hc
        clear hc
        rcases atK_cases enK (enK x) l with ⟨g1, g2⟩ | ⟨k0, y0, g1, g2, g3⟩
        · have HAT := HAT0
          rw [g1] at HAT
          have HG1 := Lib.hid g1
          clear g1 g2 HAT0
          by_cases hm : mo ≤ (n : Nat)
          · have e3 : decide (mo ≤ (n : Int)) = true := decide_eq_true hm
            have HM := Lib.hid hm
            clear hm
            have HE1 := Lib.hid (S1.out.kn.at 1 rfl)
            go_upto_region 2 with (first
              | (refine wpList_load_row rfl 38 _ rfl be rfl 38 (enA x) (0, 0) _ HE1.out Try.underlying38 rfl enSize ?_))
            go_at_call 41
            refine (HGD.out _).mono ?_
            rintro e w2 ⟨rfl, hb2⟩
            have S2 := Lib.hid (S1.out.next hb2)
            have cA2 := (S2.out.kn.at 1 rfl).cell 8
            simp only [enA, List.getElem?_toArray, List.getElem?_cons_succ, List.getElem?_cons_zero] at cA2
            have cL2 := (S2.out.kn.at 2 rfl).cell 1
            simp only [List.getElem?_toArray, List.getElem?_cons_succ, List.getElem?_cons_zero] at cL2
            have cE0 := (S2.out.kn.at 1 rfl).cell 0
            simp only [enA, List.getElem?_toArray, List.getElem?_cons_succ, List.getElem?_cons_zero] at cE0
            have cE1 := (S2.out.kn.at 1 rfl).cell 1
            simp only [enA, List.getElem?_toArray, List.getElem?_cons_succ, List.getElem?_cons_zero] at cE1
            have cE2 := (S2.out.kn.at 1 rfl).cell 2
            simp only [enA, List.getElem?_toArray, List.getElem?_cons_succ, List.getElem?_cons_zero] at cE2
            have cE3 := (S2.out.kn.at 1 rfl).cell 3
            simp only [enA, List.getElem?_toArray, List.getElem?_cons_succ, List.getElem?_cons_zero] at cE3
            have cE4 := (S2.out.kn.at 1 rfl).cell 4
            simp only [enA, List.getElem?_toArray, List.getElem?_cons_succ, List.getElem?_cons_zero] at cE4
            have cE5 := (S2.out.kn.at 1 rfl).cell 5
            simp only [enA, List.getElem?_toArray, List.getElem?_cons_succ, List.getElem?_cons_zero] at cE5
            have cE6 := (S2.out.kn.at 1 rfl).cell 6
            simp only [enA, List.getElem?_toArray, List.getElem?_cons_succ, List.getElem?_cons_zero] at cE6
            have HF2 := Lib.hid (S2.out.kn.at 2 rfl)
            go_upto_region 2 with (first
              | (refine wpList_val (.agg #[.int .i64 mo, .int .i64 li, .slice p n cap]) (by rfl) (run_loadVar_of 28 _ rfl bf rfl 28 #[.int .i64 mo, .int .i64 li, .slice p n cap] _ HF2.out Try.underlying28 rfl fdSize) ?_))
            go_at_call 19
            refine (HAT.out _ S2.out.own).mono ?_
            rintro e w3 ⟨rfl, hb3⟩
            have S3 := Lib.hid (S2.out.next hb3)
            have cF3 := (S3.out.kn.at 2 rfl).cell 2
            simp only [List.getElem?_toArray, List.getElem?_cons_succ, List.getElem?_cons_zero] at cF3
            have cM3 := (S3.out.kn.at 2 rfl).cell 0
            simp only [List.getElem?_toArray, List.getElem?_cons_succ, List.getElem?_cons_zero] at cM3
            go_upto_region 2 with fail
            have HT := Lib.hid (S3.out.kn.at 0 rfl)
            have HF := Lib.hid (S3.out.kn.at 2 rfl)
            go_wp2_with (first
              | (refine wpList_load_row rfl 28 _ rfl bf rfl 28 #[.int .i64 mo, .int .i64 li, .slice p n cap] (0, 0) _ HF.out Try.underlying28 rfl fdSize ?_)
              | (refine wpList_store_row rfl 28 _ _ rfl bt #[.int .i64 mo, .int .i64 li, .slice p n cap] rfl rfl 28 #[.int .i64 0, .int .i64 0, .slice none 0 0] HT.out fdSize rfl HONE.out ?_))
            have R := Lib.hid (show putE mo li l x = (l, false) from if_neg (by rintro ⟨-, -, -, q⟩; exact q ⟨by rw [HG1.out]; omega, by rw [← HN.out]; exact HM.out⟩))
            rw [R.out]
            exact bodyPost_ret (v := .tuple #[.agg #[.int .i64 mo, .int .i64 li, .slice p n cap], .bool false]) (results_row_tmp Try.results16 _ _ bt 28 #[.int .i64 mo, .int .i64 li, .slice p n cap] _ _ rfl rfl (HT.out.row _) Try.underlying28 rfl fdSize) rfl ⟨.slice p n cap, rfl, Own.setRow (HOW.out _ (S3.out.kn.below)) HNB.out _, below_setRow (S3.out.kn.below) HBT0.out _⟩
          · have e3 : decide (mo ≤ (n : Int)) = false := decide_eq_false hm
            have HM := Lib.hid hm
            clear hm
            have HE1 := Lib.hid (S1.out.kn.at 1 rfl)
            go_upto_region 3 with (first
              | (refine wpList_load_row rfl 38 _ rfl be rfl 38 (enA x) (0, 0) _ HE1.out Try.underlying38 rfl enSize ?_))
            go_at_call 41
            refine (HGD.out _).mono ?_
            rintro e w2 ⟨rfl, hb2⟩
            have S2 := Lib.hid (S1.out.next hb2)
            have cA2 := (S2.out.kn.at 1 rfl).cell 8
            simp only [enA, List.getElem?_toArray, List.getElem?_cons_succ, List.getElem?_cons_zero] at cA2
            have cL2 := (S2.out.kn.at 2 rfl).cell 1
            simp only [List.getElem?_toArray, List.getElem?_cons_succ, List.getElem?_cons_zero] at cL2
            have cE0 := (S2.out.kn.at 1 rfl).cell 0
            simp only [enA, List.getElem?_toArray, List.getElem?_cons_succ, List.getElem?_cons_zero] at cE0
            have cE1 := (S2.out.kn.at 1 rfl).cell 1
            simp only [enA, List.getElem?_toArray, List.getElem?_cons_succ, List.getElem?_cons_zero] at cE1
            have cE2 := (S2.out.kn.at 1 rfl).cell 2
            simp only [enA, List.getElem?_toArray, List.getElem?_cons_succ, List.getElem?_cons_zero] at cE2
            have cE3 := (S2.out.kn.at 1 rfl).cell 3
            simp only [enA, List.getElem?_toArray, List.getElem?_cons_succ, List.getElem?_cons_zero] at cE3
            have cE4 := (S2.out.kn.at 1 rfl).cell 4
            simp only [enA, List.getElem?_toArray, List.getElem?_cons_succ, List.getElem?_cons_zero] at cE4
            have cE5 := (S2.out.kn.at 1 rfl).cell 5
            simp only [enA, List.getElem?_toArray, List.getElem?_cons_succ, List.getElem?_cons_zero] at cE5
            have cE6 := (S2.out.kn.at 1 rfl).cell 6
            simp only [enA, List.getElem?_toArray, List.getElem?_cons_succ, List.getElem?_cons_zero] at cE6
            have HF2 := Lib.hid (S2.out.kn.at 2 rfl)
            go_upto_region 3 with (first
              | (refine wpList_val (.agg #[.int .i64 mo, .int .i64 li, .slice p n cap]) (by rfl) (run_loadVar_of 28 _ rfl bf rfl 28 #[.int .i64 mo, .int .i64 li, .slice p n cap] _ HF2.out Try.underlying28 rfl fdSize) ?_))
            go_at_call 19
            refine (HAT.out _ S2.out.own).mono ?_
            rintro e w3 ⟨rfl, hb3⟩
            have S3 := Lib.hid (S2.out.next hb3)
            have cF3 := (S3.out.kn.at 2 rfl).cell 2
            simp only [List.getElem?_toArray, List.getElem?_cons_succ, List.getElem?_cons_zero] at cF3
            have cM3 := (S3.out.kn.at 2 rfl).cell 0
            simp only [List.getElem?_toArray, List.getElem?_cons_succ, List.getElem?_cons_zero] at cM3
            go_upto_region 3 with fail
            have HT := Lib.hid (S3.out.kn.at 0 rfl)
            have HF := Lib.hid (S3.out.kn.at 2 rfl)
            have HE := Lib.hid (S3.out.kn.at 1 rfl)
            have HPB := Lib.hid (show base ≤ w3.heap.size from Nat.le_trans HBASE.out S3.out.kn.below.size)
            have HTB := Lib.hid HT.out.lt
            go_wp2_with (first
              | (refine wpList_load_row rfl 28 _ rfl bf rfl 28 #[.int .i64 mo, .int .i64 li, .slice p n cap] (0, 0) _ HF.out Try.underlying28 rfl fdSize ?_)
              | (refine wpList_load_row rfl 38 _ rfl be rfl 38 (enA x) (0, 0) _ HE.out Try.underlying38 rfl enSize ?_)
              | (go_at_call 42; refine (rput9 w3.heap.size base mo li (.slice p n cap) l x w3 (HOW.out _ S3.out.kn.below) HOK.out HXO.out (Nat.le_refl _) HL.out).mono ?_; rintro e w4 ⟨v', rfl, o4, hb4⟩; have O4 := Lib.hid o4; have B4 := Lib.hid hb4; have HT4 := Lib.hid (HT.out.below hb4 HTB.out); have HV4 := Lib.hid (fd_one mo li o4))
              | (refine wpList_store_row rfl 28 _ _ rfl bt #[.int .i64 mo, .int .i64 li, v'] rfl rfl 28 #[.int .i64 0, .int .i64 0, .slice none 0 0] HT4.out fdSize rfl HV4.out ?_))
            have R := Lib.hid (show putE mo li l x = (putEn l x, true) from if_pos (by exact ⟨HG.out, by have := HA.out; omega, by have := HC.out; omega, fun q => by have := q.2; have := HM.out; have := HN.out; omega⟩))
            rw [R.out]
            exact bodyPost_ret (v := .tuple #[.agg #[.int .i64 mo, .int .i64 li, v'], .bool true]) (results_row_tmp Try.results16 _ _ bt 28 #[.int .i64 mo, .int .i64 li, v'] _ _ rfl rfl (HT4.out.row _) Try.underlying28 rfl fdSize) rfl ⟨v', rfl, Own.setRow (O4.out.mono HPB.out) (fun q => by have := (O4.out.lt bt q).1; have := HTB.out; omega) _, below_setRow (S3.out.kn.below.trans (B4.out.mono S3.out.kn.below.size)) HBT0.out _⟩
        · have HAT := HAT0
          rw [g1] at HAT
          have HG1 := Lib.hid g1
          clear g1 g2 g3 HAT0
          have HE1 := Lib.hid (S1.out.kn.at 1 rfl)
          go_upto_region 3 with (first
            | (refine wpList_load_row rfl 38 _ rfl be rfl 38 (enA x) (0, 0) _ HE1.out Try.underlying38 rfl enSize ?_))
          go_at_call 41
          refine (HGD.out _).mono ?_
          rintro e w2 ⟨rfl, hb2⟩
          have S2 := Lib.hid (S1.out.next hb2)
          have cA2 := (S2.out.kn.at 1 rfl).cell 8
          simp only [enA, List.getElem?_toArray, List.getElem?_cons_succ, List.getElem?_cons_zero] at cA2
          have cL2 := (S2.out.kn.at 2 rfl).cell 1
          simp only [List.getElem?_toArray, List.getElem?_cons_succ, List.getElem?_cons_zero] at cL2
          have cE0 := (S2.out.kn.at 1 rfl).cell 0
          simp only [enA, List.getElem?_toArray, List.getElem?_cons_succ, List.getElem?_cons_zero] at cE0
          have cE1 := (S2.out.kn.at 1 rfl).cell 1
          simp only [enA, List.getElem?_toArray, List.getElem?_cons_succ, List.getElem?_cons_zero] at cE1
          have cE2 := (S2.out.kn.at 1 rfl).cell 2
          simp only [enA, List.getElem?_toArray, List.getElem?_cons_succ, List.getElem?_cons_zero] at cE2
          have cE3 := (S2.out.kn.at 1 rfl).cell 3
          simp only [enA, List.getElem?_toArray, List.getElem?_cons_succ, List.getElem?_cons_zero] at cE3
          have cE4 := (S2.out.kn.at 1 rfl).cell 4
          simp only [enA, List.getElem?_toArray, List.getElem?_cons_succ, List.getElem?_cons_zero] at cE4
          have cE5 := (S2.out.kn.at 1 rfl).cell 5
          simp only [enA, List.getElem?_toArray, List.getElem?_cons_succ, List.getElem?_cons_zero] at cE5
          have cE6 := (S2.out.kn.at 1 rfl).cell 6
          simp only [enA, List.getElem?_toArray, List.getElem?_cons_succ, List.getElem?_cons_zero] at cE6
          have HF2 := Lib.hid (S2.out.kn.at 2 rfl)
          go_upto_region 3 with (first
            | (refine wpList_val (.agg #[.int .i64 mo, .int .i64 li, .slice p n cap]) (by rfl) (run_loadVar_of 28 _ rfl bf rfl 28 #[.int .i64 mo, .int .i64 li, .slice p n cap] _ HF2.out Try.underlying28 rfl fdSize) ?_))
          go_at_call 19
          refine (HAT.out _ S2.out.own).mono ?_
          rintro e w3 ⟨rfl, hb3⟩
          have S3 := Lib.hid (S2.out.next hb3)
          have cF3 := (S3.out.kn.at 2 rfl).cell 2
          simp only [List.getElem?_toArray, List.getElem?_cons_succ, List.getElem?_cons_zero] at cF3
          have cM3 := (S3.out.kn.at 2 rfl).cell 0
          simp only [List.getElem?_toArray, List.getElem?_cons_succ, List.getElem?_cons_zero] at cM3
          go_upto_region 3 with fail
          have HT := Lib.hid (S3.out.kn.at 0 rfl)
          have HF := Lib.hid (S3.out.kn.at 2 rfl)
          have HE := Lib.hid (S3.out.kn.at 1 rfl)
          have HPB := Lib.hid (show base ≤ w3.heap.size from Nat.le_trans HBASE.out S3.out.kn.below.size)
          have HTB := Lib.hid HT.out.lt
          go_wp2_with (first
            | (refine wpList_load_row rfl 28 _ rfl bf rfl 28 #[.int .i64 mo, .int .i64 li, .slice p n cap] (0, 0) _ HF.out Try.underlying28 rfl fdSize ?_)
            | (refine wpList_load_row rfl 38 _ rfl be rfl 38 (enA x) (0, 0) _ HE.out Try.underlying38 rfl enSize ?_)
            | (go_at_call 42; refine (rput9 w3.heap.size base mo li (.slice p n cap) l x w3 (HOW.out _ S3.out.kn.below) HOK.out HXO.out (Nat.le_refl _) HL.out).mono ?_; rintro e w4 ⟨v', rfl, o4, hb4⟩; have O4 := Lib.hid o4; have B4 := Lib.hid hb4; have HT4 := Lib.hid (HT.out.below hb4 HTB.out); have HV4 := Lib.hid (fd_one mo li o4))
            | (refine wpList_store_row rfl 28 _ _ rfl bt #[.int .i64 mo, .int .i64 li, v'] rfl rfl 28 #[.int .i64 0, .int .i64 0, .slice none 0 0] HT4.out fdSize rfl HV4.out ?_))
          have R := Lib.hid (show putE mo li l x = (putEn l x, true) from if_pos (by exact ⟨HG.out, by have := HA.out; omega, by have := HC.out; omega, fun q => by have := q.1; rw [HG1.out] at this; omega⟩))
          rw [R.out]
          exact bodyPost_ret (v := .tuple #[.agg #[.int .i64 mo, .int .i64 li, v'], .bool true]) (results_row_tmp Try.results16 _ _ bt 28 #[.int .i64 mo, .int .i64 li, v'] _ _ rfl rfl (HT4.out.row _) Try.underlying28 rfl fdSize) rfl ⟨v', rfl, Own.setRow (O4.out.mono HPB.out) (fun q => by have := (O4.out.lt bt q).1; have := HTB.out; omega) _, below_setRow (S3.out.kn.below.trans (B4.out.mono S3.out.kn.below.size)) HBT0.out _⟩
end Go.Proofs.Ytilklfmcdgggfaa
end
section
namespace Go.Proofs.Ytilklfmcdgggfaa
open Go.RowKit
set_option linter.unusedSimpArgs false
set_option linter.unusedVariables false

/-- A call that hands back a value that is not known ahead. -/
theorem i_callx {P : Program} {ops : Array Oper} {Q : Exit → Act → World → Prop} {i : Nat} {o : Oper} {a : Act} {w : World} {K : Act → World → Prop} (ho : ops[i]? = some o) (f : FuncId) (args : Array Value) (R : Value → World → Prop) (hw : Region.wanted o (yielded ops a.tmps) = true) (hv : (execOp a.eval o).run P w = .ok (.enter f args) w)
    (hc : Calls P f args w fun e w' => ∃ v, e = .returned v ∧ R v w') (h : ∀ v w', R v w' → K (a.put o.dst v) w') : wpOp P ops Q i K a w := by
  unfold wpOp
  simp only [ho, hw, if_true, Oper.wp, hv, Oper.upon]
  exact .inl (hc.mono fun e w' ⟨v, he, hr⟩ => by subst he; exact h v w' hr)
abbrev enNilC : Array Value := #[.int .u16 0, .int .u8 0, .int .u8 0, .int .u8 0, .int .u8 0, .int .u8 0, .int .u8 0, .int .i64 0, .int .i64 0]
/-- The slots and the world, while the region runs. -/
structure L14W (w0 : World) (bf be bt bu bg : Nat) (mo li : Int) (v1 : Value) (X : En) (arr : Array Value) (sz : Nat) (l2 : List En) (wB : World) (L : Nat → Bool) (v6 v66 v67 v68 v69 : Value) (w : World) : Prop where
  e66 : L 0 = true → v66 = .agg #[.int .i64 mo, .int .i64 li, v1]
  e67 : L 1 = true → v67 = enV X
  e69 : L 3 = true → v69 = .agg arr
  e6 : L 6 = true → v6 = .bool true
  dep : L 2 = true → L 0 = true ∧ L 1 = true
  o2 : L 2 = false → w = wB ∧ L 4 = false ∧ L 5 = false
  y2 : L 2 = true → ∃ vp, v68 = .agg #[.int .i64 mo, .int .i64 li, vp] ∧ Own w sz 38 9 enC vp l2 ∧
    Kn w0 [(bu, if L 5 = true then arr else enNilC, 38), (bt, if L 4 = true then #[.int .i64 mo, .int .i64 li, vp] else #[.int .i64 0, .int .i64 0, .slice none 0 0], 28), (bg, arr, 38), (be, enA X, 38), (bf, #[.int .i64 mo, .int .i64 li, v1], 28)] w
abbrev L14F (bf be bt bu bg : Nat) (f0 f1 f7 f8 f10 f11 f12 f13 f14 f15 f16 f17 f18 f19 f20 f21 f22 f23 f24 f25 f26 f27 f28 f29 f30 f31 f32 f33 f34 f35 f36 f37 f38 f39 f40 f41 f42 f43 f44 f45 f46 f47 f48 f49 f50 f51 f52 f53 f54 f55 f56 f57 f58 f59 f60 f61 f62 f63 f64 f65 : Value) (v6 v66 v67 v68 v69 : Value) : Act := { tmps := #[f0, f1, .pointer (some ⟨bf, 0, none⟩), .pointer (some ⟨be, 0, none⟩), .pointer (some ⟨bt, 0, none⟩), .pointer (some ⟨bu, 0, none⟩), v6, f7, f8, .pointer (some ⟨bg, 0, none⟩), f10, f11, f12, f13, f14, f15, f16, f17, f18, f19, f20, f21, f22, f23, f24, f25, f26, f27, f28, f29, f30, f31, f32, f33, f34, f35, f36, f37, f38, f39, f40, f41, f42, f43, f44, f45, f46, f47, f48, f49, f50, f51, f52, f53, f54, f55, f56, f57, f58, f59, f60, f61, f62, f63, f64, f65, v66, v67, v68, v69], defers := [] }
def L14I (w0 : World) (bf be bt bu bg : Nat) (mo li : Int) (v1 : Value) (X : En) (arr : Array Value) (sz : Nat) (l2 : List En) (wB : World) (f0 f1 f7 f8 f10 f11 f12 f13 f14 f15 f16 f17 f18 f19 f20 f21 f22 f23 f24 f25 f26 f27 f28 f29 f30 f31 f32 f33 f34 f35 f36 f37 f38 f39 f40 f41 f42 f43 f44 f45 f46 f47 f48 f49 f50 f51 f52 f53 f54 f55 f56 f57 f58 f59 f60 f61 f62 f63 f64 f65 : Value) (L : Nat → Bool) (ac : Act) (w : World) : Prop :=
  ∃ v6 v66 v67 v68 v69, ac = L14F bf be bt bu bg f0 f1 f7 f8 f10 f11 f12 f13 f14 f15 f16 f17 f18 f19 f20 f21 f22 f23 f24 f25 f26 f27 f28 f29 f30 f31 f32 f33 f34 f35 f36 f37 f38 f39 f40 f41 f42 f43 f44 f45 f46 f47 f48 f49 f50 f51 f52 f53 f54 f55 f56 f57 f58 f59 f60 f61 f62 f63 f64 f65 v6 v66 v67 v68 v69 ∧ L14W w0 bf be bt bu bg mo li v1 X arr sz l2 wB L v6 v66 v67 v68 v69 w
end Go.Proofs.Ytilklfmcdgggfaa
end
section
namespace Go.Proofs.Ytilklfmcdgggfaa
open Go.RowKit
attribute [local irreducible] wpQuiet
set_option linter.unusedSimpArgs false
set_option linter.unusedVariables false

/-- Three results: two rows, and a slot. -/
theorem results_row_row_tmp {P : Program} {fn : Func} {p q u : Tmp} {ty ty2 : TypeId} (h : fn.results = #[.cell p ty, .cell q ty2, .tmp u]) (tmps : Array Value) (w : World) (g g2 : Nat) (t t2 : TypeId) (cs cs2 : Array Value) (v : Value) (d d2 : TypeDesc)
    (hp : tmps.getD p undef = .pointer (some ⟨g, 0, none⟩)) (hq : tmps.getD q undef = .pointer (some ⟨g2, 0, none⟩)) (hv : tmps.getD u undef = v) (hg : Blk w g cs t) (hg2 : Blk w g2 cs2 t2)
    (hu : P.underlying ty = some d) (hd : (match d with | .struct _ | .array _ _ => true | _ => false) = true) (hi : (P.info? ty).map (·.size) = some cs.size)
    (hu2 : P.underlying ty2 = some d2) (hd2 : (match d2 with | .struct _ | .array _ _ => true | _ => false) = true) (hi2 : (P.info? ty2).map (·.size) = some cs2.size) :
    (results fn tmps).run P w = .ok (.tuple #[.agg cs, .agg cs2, v]) w := by
  have hp' : tmps[p]?.getD undef = .pointer (some ⟨g, 0, none⟩) := by simpa using hp
  have hq' : tmps[q]?.getD undef = .pointer (some ⟨g2, 0, none⟩) := by simpa using hq
  have hv' : tmps[u]?.getD undef = v := by simpa using hv
  simp [results, h, hp', hq', hv', asAddr, run_loadVar_row w g t ty cs (0, 0) d hg hu hd hi, run_loadVar_row w g2 t2 ty2 cs2 (0, 0) d2 hg2 hu2 hd2 hi2]

abbrev enNilB : Array Value := #[.int .u16 0, .int .u8 0, .int .u8 0, .int .u8 0, .int .u8 0, .int .u8 0, .int .u8 0, .int .i64 0, .int .i64 0]
theorem nilB_one : enNilB.all (·.oneCell') = true := by simp [Value.oneCell']
/-- The first one of the oldest, of so many. -/
def oldN (l : List En) : Nat → Nat
  | 0 => 0
  | i + 1 => if (l.getD (oldN l i) ⟨0, 0, 0, 0⟩).age < (l.getD i ⟨0, 0, 0, 0⟩).age then i else oldN l i
theorem oldN_lt (l : List En) : ∀ i, 0 < l.length → i ≤ l.length → oldN l i < l.length
  | 0, h, _ => h
  | i + 1, h, hi => by
    unfold oldN
    split
    · omega
    · exact oldN_lt l i h (by omega)
/-- What Learn makes of a list; which one had to go. -/
def learnE (mo : Int) (l : List En) (x : En) : List En × Array Value × Bool :=
  if goodE x = false then (l, enNilB, false)
  else if 0 ≤ atK enK (enK x) l ∨ (l.length : Int) < mo then (putEn l x, enNilB, false)
  else (putEn (l.eraseIdx (oldN l l.length)) x, enA (l.getD (oldN l l.length) ⟨0, 0, 0, 0⟩), true)

/-- A slice is stored in a cell. -/
theorem store_slice {w : World} {base bf : Nat} {v1 : Value} {l : List En} {mo li : Int} {sv : Value} (o : Own w base 38 9 enC v1 l) (hb : Blk w bf #[.int .i64 mo, .int .i64 li, sv] 28) : (Instr.storeAt 26 (.pointer (some ⟨bf, 2, none⟩)) v1).run Try.prog w = .ok () (w.setCell ⟨bf, 2, none⟩ v1) := by
  have c3 : w.cell? ⟨bf, 2, none⟩ = some sv := hb.cell 2
  have fr3 := hb.free 2
  rcases o.cases with ⟨hv, -⟩ | ⟨g3, q3, hv, -⟩
  · rw [hv]
    go_simp
  · obtain ⟨nn, hnn⟩ : ∃ nn, l.length = nn := ⟨_, rfl⟩
    rw [hv, hnn]
    go_simp
/-- What is known all along. -/
structure LQ (w0 : World) (bf be bt bu : Nat) (mo li : Int) (SV : Value) (x : En) (l : List En) (w : World) : Prop where
  kn : Kn w0 [(bu, enNilB, 38), (bt, #[.int .i64 0, .int .i64 0, .slice none 0 0], 28), (be, enA x, 38), (bf, #[.int .i64 mo, .int .i64 li, SV], 28)] w
  own : Own w 0 38 9 enC SV l
theorem LQ.next {w0 w w' : World} {bf be bt bu : Nat} {mo li : Int} {SV : Value} {x : En} {l : List En} (h : LQ w0 bf be bt bu mo li SV x l w) (hb : Below w.heap.size w w') : LQ w0 bf be bt bu mo li SV x l w' := ⟨h.kn.next hb, h.own.next hb⟩

set_option maxRecDepth 100000 in
set_option maxHeartbeats 16000000 in
theorem rlearn9 (base : Nat) (mo li : Int) (hmo : 1 ≤ mo) (v0 : Value) (l : List En) (x : En) (w : World) (h : Own w base 38 9 enC v0 l) (hok : ∀ y ∈ l, enOk y) (hx : enOk x) (hb : base ≤ w.heap.size) (hl : l.length ≤ 100) :
    Calls Try.prog 21 #[.agg #[.int .i64 mo, .int .i64 li, v0], enV x] w fun e w' => ∃ v', e = .returned (.tuple #[.agg #[.int .i64 mo, .int .i64 li, v'], .agg (learnE mo l ⟨x.vid, x.mac, x.port, 0⟩).2.1, .bool (learnE mo l ⟨x.vid, x.mac, x.port, 0⟩).2.2]) ∧
      Own w' base 38 9 enC v' (learnE mo l ⟨x.vid, x.mac, x.port, 0⟩).1 ∧ Below w.heap.size w w' := by
  obtain ⟨p, n, cap, rfl, hn⟩ : ∃ p n cap, v0 = .slice p n cap ∧ n = l.length := by
    rcases h.cases with ⟨rfl, rfl⟩ | ⟨g, cap, rfl, -⟩
    · exact ⟨none, 0, 0, rfl, rfl⟩
    · exact ⟨_, _, _, rfl, rfl⟩
  obtain ⟨xv, xm, xp, xg⟩ := x
  simp only
  have HONE := Lib.hid (fd_one mo li h)
  have HN := Lib.hid hn
  have HMO := Lib.hid hmo
  have HXO := Lib.hid (show enOk ⟨xv, xm, xp, 0⟩ from hx)
  have HOK := Lib.hid hok
  have HL := Lib.hid hl
  have HBASE := Lib.hid hb
  have HOW := Lib.hid (show ∀ W : World, Below w.heap.size w W → Own W base 38 9 enC (.slice p n cap) l from fun W q => h.next q)
  have HLT := Lib.hid (show ∀ q, (Value.slice p n cap).ownBlock = some q → q < w.heap.size from fun q hq => (h.lt q hq).2)
  have HAT0 := Lib.hid (show ∀ W, Own W 0 38 9 enC (.slice p n cap) l → Calls Try.prog 19 #[.agg #[.int .i64 mo, .int .i64 li, .slice p n cap], .int .u16 (xv : Nat), mac (byteF xm)] W fun e w' => e = .returned (.int .i64 (atK enK (enK ⟨xv, xm, xp, 0⟩) l)) ∧ Below W.heap.size W w' from fun W o => rat9_any 0 xv xm hx mo li (.slice p n cap) l W o hok (by omega))
  obtain ⟨w1, hw1⟩ : ∃ w1, w1 = (((w.alloc (.cells #[.int .i64 mo, .int .i64 li, .slice p n cap] 28)).alloc (.cells #[.int .u16 (xv : Nat), .int .u8 (byteF xm 0 : Nat), .int .u8 (byteF xm 1 : Nat), .int .u8 (byteF xm 2 : Nat), .int .u8 (byteF xm 3 : Nat), .int .u8 (byteF xm 4 : Nat), .int .u8 (byteF xm 5 : Nat), .int .i64 xp, .int .i64 0] 38)).alloc (.cells #[.int .i64 0, .int .i64 0, .slice none 0 0] 28)).alloc (.cells enNilB 38) := ⟨_, rfl⟩
  have K1 := ((((Kn.nil w).alloc #[.int .i64 mo, .int .i64 li, .slice p n cap] 28).alloc #[.int .u16 (xv : Nat), .int .u8 (byteF xm 0 : Nat), .int .u8 (byteF xm 1 : Nat), .int .u8 (byteF xm 2 : Nat), .int .u8 (byteF xm 3 : Nat), .int .u8 (byteF xm 4 : Nat), .int .u8 (byteF xm 5 : Nat), .int .i64 xp, .int .i64 0] 38).alloc #[.int .i64 0, .int .i64 0, .slice none 0 0] 28).alloc enNilB 38
  have O1 : Own ((((w.alloc (.cells #[.int .i64 mo, .int .i64 li, .slice p n cap] 28)).alloc (.cells #[.int .u16 (xv : Nat), .int .u8 (byteF xm 0 : Nat), .int .u8 (byteF xm 1 : Nat), .int .u8 (byteF xm 2 : Nat), .int .u8 (byteF xm 3 : Nat), .int .u8 (byteF xm 4 : Nat), .int .u8 (byteF xm 5 : Nat), .int .i64 xp, .int .i64 0] 38)).alloc (.cells #[.int .i64 0, .int .i64 0, .slice none 0 0] 28)).alloc (.cells enNilB 38)) 0 38 9 enC (.slice p n cap) l := ((((h.alloc _).alloc _).alloc _).alloc _).mono (Nat.zero_le _)
  rw [World.size_alloc, World.size_alloc, World.size_alloc] at K1
  have S1 := Lib.hid (show LQ w w.heap.size (w.heap.size + 1) (w.heap.size + 1 + 1) (w.heap.size + 1 + 1 + 1) mo li (.slice p n cap) ⟨xv, xm, xp, 0⟩ l w1 by
    rw [hw1]
    exact ⟨K1, O1⟩)
  have HW := Lib.hid hw1
  clear K1 O1 hx hb hok hl h hn hw1 hmo
  go_enter Try.func21, Try.ntmps21
  go_upto_region 2 with fail
  rw [← HW.out]
  clear HW
  have HB0 := Lib.hid (show w.heap.size ≤ w.heap.size ∧ w.heap.size < w.heap.size + 1 ∧ w.heap.size + 1 < w.heap.size + 1 + 1 ∧ w.heap.size + 1 + 1 < w.heap.size + 1 + 1 + 1 by omega)
  generalize hbu : w.heap.size + 1 + 1 + 1 = bu at S1 HB0 ⊢
  generalize hbt : w.heap.size + 1 + 1 = bt at S1 HB0 ⊢
  generalize hbe : w.heap.size + 1 = be at S1 HB0 ⊢
  generalize hbf : w.heap.size = bf at S1 HB0 ⊢
  have HLO := Lib.hid (show w.heap.size ≤ bf by omega)
  have HNB := Lib.hid (show ∀ q, (Value.slice p n cap).ownBlock = some q → q < bf from fun q hq => by have := HLT.out q hq; omega)
  rw [hbf] at HLT
  clear hbu hbt hbe hbf HLT
  have SZE := Lib.hid enSize
  have SZF := Lib.hid fdSize
  have HE1 := Lib.hid (S1.out.kn.at 2 rfl)
  cases hg : goodE ⟨xv, xm, xp, 0⟩ with
  | false =>
    have HGD := Lib.hid (show ∀ W, Calls Try.prog 41 #[enV ⟨xv, xm, xp, 0⟩] W fun e w' => e = .returned (.bool false) ∧ Below W.heap.size W w' from fun W => by rw [← hg]; exact rgood9 ⟨xv, xm, xp, 0⟩ W)
    have R := Lib.hid (show learnE mo l ⟨xv, xm, xp, 0⟩ = (l, enNilB, false) by unfold learnE; rw [if_pos hg])
    clear hg
    go_upto_region 3 with (first
      | (refine wpList_load_row rfl 38 _ rfl be rfl 38 (enA ⟨xv, xm, xp, 0⟩) (0, 0) _ HE1.out Try.underlying38 rfl SZE.out ?_)
      | (go_at_call 41; refine (HGD.out _).mono ?_; rintro e w2 ⟨rfl, hb2⟩))
    have S2 := Lib.hid (S1.out.next hb2)
    have HF := Lib.hid (S2.out.kn.at 3 rfl)
    have HT := Lib.hid (S2.out.kn.at 1 rfl)
    have HU := Lib.hid ((S2.out.kn.at 0 rfl).rowOther (k := bt) (by have := HB0.out; omega) #[.int .i64 mo, .int .i64 li, .slice p n cap])
    clear hb2
    go_wp2_with (first
      | (refine wpList_load_row rfl 28 _ rfl bf rfl 28 #[.int .i64 mo, .int .i64 li, .slice p n cap] (0, 0) _ HF.out Try.underlying28 rfl SZF.out ?_)
      | (refine wpList_store_row rfl 28 _ _ rfl bt #[.int .i64 mo, .int .i64 li, .slice p n cap] rfl rfl 28 #[.int .i64 0, .int .i64 0, .slice none 0 0] HT.out SZF.out rfl HONE.out ?_)
      | (refine wpList_store_row rfl 38 _ _ rfl bu enNilB rfl rfl 38 enNilB HU.out SZE.out rfl nilB_one ?_))
    refine bodyPost_ret (v := .tuple #[.agg #[.int .i64 mo, .int .i64 li, .slice p n cap], .agg enNilB, .bool false]) (results_row_row_tmp Try.results21 _ _ bt bu 28 38 #[.int .i64 mo, .int .i64 li, .slice p n cap] enNilB _ _ _ rfl rfl rfl ((HT.out.row _).rowOther (by have := HB0.out; omega) _) (HU.out.row _) Try.underlying28 rfl SZF.out Try.underlying38 rfl SZE.out) rfl ?_
    have B2 := S2.out.kn.below
    rw [R.out]
    refine ⟨.slice p n cap, rfl, ?_, ?_⟩
    · exact ((HOW.out _ B2).setRow (fun q => by have := HNB.out bt q; have := HB0.out; omega) _).setRow (fun q => by have := HNB.out bu q; have := HB0.out; omega) _
    · exact below_setRow (below_setRow B2 (by have := HB0.out; have := HLO.out; omega) _) (by have := HB0.out; have := HLO.out; omega) _
  | true =>
    have HGD := Lib.hid (show ∀ W, Calls Try.prog 41 #[enV ⟨xv, xm, xp, 0⟩] W fun e w' => e = .returned (.bool true) ∧ Below W.heap.size W w' from fun W => by rw [← hg]; exact rgood9 ⟨xv, xm, xp, 0⟩ W)
    have HG := Lib.hid hg
    clear hg
    go_upto_region 4 with (first
      | (refine wpList_load_row rfl 38 _ rfl be rfl 38 (enA ⟨xv, xm, xp, 0⟩) (0, 0) _ HE1.out Try.underlying38 rfl SZE.out ?_)
      | (go_at_call 41; refine (HGD.out _).mono ?_; rintro e w2 ⟨rfl, hb2⟩))
    have S2 := Lib.hid (S1.out.next hb2)
    clear hb2
    have HF := Lib.hid (S2.out.kn.at 3 rfl)
    have HE := Lib.hid (S2.out.kn.at 2 rfl)
    obtain ⟨q0, q1, q2, q3, q4, q5, q6, q7, q8⟩ : w2.cell? ⟨be, 0, none⟩ = some (.int .u16 (xv : Nat)) ∧ w2.cell? ⟨be, 1, none⟩ = some (.int .u8 (byteF xm 0 : Nat)) ∧ w2.cell? ⟨be, 2, none⟩ = some (.int .u8 (byteF xm 1 : Nat)) ∧ w2.cell? ⟨be, 3, none⟩ = some (.int .u8 (byteF xm 2 : Nat)) ∧ w2.cell? ⟨be, 4, none⟩ = some (.int .u8 (byteF xm 3 : Nat)) ∧ w2.cell? ⟨be, 5, none⟩ = some (.int .u8 (byteF xm 4 : Nat)) ∧ w2.cell? ⟨be, 6, none⟩ = some (.int .u8 (byteF xm 5 : Nat)) ∧ w2.cell? ⟨be, 7, none⟩ = some (.int .i64 xp) ∧ w2.cell? ⟨be, 8, none⟩ = some (.int .i64 0) :=
      ⟨HE.out.cell 0, HE.out.cell 1, HE.out.cell 2, HE.out.cell 3, HE.out.cell 4, HE.out.cell 5, HE.out.cell 6, HE.out.cell 7, HE.out.cell 8⟩
    have c0 : w2.cell? ⟨bf, 0, none⟩ = some (.int .i64 mo) := HF.out.cell 0
    have c2 : w2.cell? ⟨bf, 2, none⟩ = some (.slice p n cap) := HF.out.cell 2
    obtain ⟨at0, hat0⟩ : ∃ at0, at0 = atK enK (enK ⟨xv, xm, xp, 0⟩) l := ⟨_, rfl⟩
    have AT := Lib.hid hat0
    have HAT := Lib.hid (show ∀ W, Own W 0 38 9 enC (.slice p n cap) l → Calls Try.prog 19 #[.agg #[.int .i64 mo, .int .i64 li, .slice p n cap], .int .u16 (xv : Nat), mac (byteF xm)] W fun e w' => e = .returned (.int .i64 at0) ∧ Below W.heap.size W w' from fun W o => by rw [hat0]; exact HAT0.out W o)
    clear hat0
    obtain ⟨rm, hrm⟩ : ∃ rm : Bool, rm = (decide (0 ≤ at0) || decide ((n : Int) < mo)) := ⟨_, rfl⟩
    have RM := Lib.hid hrm
    clear hrm
    go_upto_region 4 with fail
    go_cut [30] (fun s wx => s = .bool rm ∧ LQ w bf be bt bu mo li (.slice p n cap) ⟨xv, xm, xp, 0⟩ l wx)
    case first =>
      cases e1 : decide (0 ≤ at0) with
      | true =>
        have RR := Lib.hid (show rm = true by rw [RM.out, e1]; rfl)
        go_wp2_with (first
          | (refine wpList_load_row rfl 28 _ rfl bf rfl 28 #[.int .i64 mo, .int .i64 li, .slice p n cap] (0, 0) _ HF.out Try.underlying28 rfl SZF.out ?_)
          | (go_at_call 19; refine (HAT.out _ S2.out.own).mono ?_; rintro e w3 ⟨rfl, hb3⟩; have S3 := Lib.hid (S2.out.next hb3); clear hb3))
        go_meet
        exact ⟨by rw [RR.out], S3.out⟩
      | false =>
        obtain ⟨r, hr⟩ : ∃ r : Bool, decide ((n : Int) < mo) = r := ⟨_, rfl⟩
        have RR := Lib.hid (show rm = r by rw [RM.out, e1, hr]; rfl)
        go_wp2_with (first
          | (refine wpList_load_row rfl 28 _ rfl bf rfl 28 #[.int .i64 mo, .int .i64 li, .slice p n cap] (0, 0) _ HF.out Try.underlying28 rfl SZF.out ?_)
          | (go_at_call 19; refine (HAT.out _ S2.out.own).mono ?_; rintro e w3 ⟨rfl, hb3⟩; have S3 := Lib.hid (S2.out.next hb3); have d0 : w3.cell? ⟨bf, 0, none⟩ = some (.int .i64 mo) := (S3.out.kn.at 3 rfl).cell 0; have d2 : w3.cell? ⟨bf, 2, none⟩ = some (.slice p n cap) := (S3.out.kn.at 3 rfl).cell 2; clear hb3))
        all_goals
          go_meet
          exact ⟨by rw [RR.out], S3.out⟩
    case rest =>
      obtain ⟨rfl, hS4⟩ := hcut
      have S4 := Lib.hid hS4
      clear hS4 q0 q1 q2 q3 q4 q5 q6 q7 q8 c0 c2
      cases rm with
      | true =>
        have R := Lib.hid (show learnE mo l ⟨xv, xm, xp, 0⟩ = (putEn l ⟨xv, xm, xp, 0⟩, enNilB, false) by
          unfold learnE
          rw [if_neg (by rw [HG.out]; decide), if_pos]
          have := RM.out.symm
          rw [Bool.or_eq_true, decide_eq_true_eq, decide_eq_true_eq, AT.out, HN.out] at this
          exact this)
        have HF4 := Lib.hid (S4.out.kn.at 3 rfl)
        have HE4 := Lib.hid (S4.out.kn.at 2 rfl)
        have HPUT := Lib.hid (rput9 wc.heap.size 0 mo li (.slice p n cap) l ⟨xv, xm, xp, 0⟩ wc S4.out.own HOK.out HXO.out (Nat.le_refl _) HL.out)
        go_upto_region 5 with fail
        go_wp2_with (first
          | (refine wpList_load_row rfl 28 _ rfl bf rfl 28 #[.int .i64 mo, .int .i64 li, .slice p n cap] (0, 0) _ HF4.out Try.underlying28 rfl SZF.out ?_)
          | (refine wpList_load_row rfl 38 _ rfl be rfl 38 (enA ⟨xv, xm, xp, 0⟩) (0, 0) _ HE4.out Try.underlying38 rfl SZE.out ?_)
          | (go_at_call 42; refine HPUT.out.mono ?_; rintro e w5 ⟨v5, rfl, o5, hb5⟩; have O5 := Lib.hid o5; have S5 := Lib.hid (S4.out.next hb5); have HV5 := Lib.hid (fd_one mo li o5); have HT5 := Lib.hid (S5.out.kn.at 1 rfl); have HU5 := Lib.hid ((S5.out.kn.at 0 rfl).rowOther (k := bt) (by have := HB0.out; omega) #[.int .i64 mo, .int .i64 li, v5]); clear o5 hb5)
          | (refine wpList_store_row rfl 28 _ _ rfl bt #[.int .i64 mo, .int .i64 li, v5] rfl rfl 28 #[.int .i64 0, .int .i64 0, .slice none 0 0] HT5.out SZF.out rfl HV5.out ?_)
          | (refine wpList_store_row rfl 38 _ _ rfl bu enNilB rfl rfl 38 enNilB HU5.out SZE.out rfl nilB_one ?_))
        refine bodyPost_ret (v := .tuple #[.agg #[.int .i64 mo, .int .i64 li, v5], .agg enNilB, .bool false]) (results_row_row_tmp Try.results21 _ _ bt bu 28 38 #[.int .i64 mo, .int .i64 li, v5] enNilB _ _ _ rfl rfl rfl ((HT5.out.row _).rowOther (by have := HB0.out; omega) _) (HU5.out.row _) Try.underlying28 rfl SZF.out Try.underlying38 rfl SZE.out) rfl ?_
        rw [R.out]
        have hbt := (S4.out.kn.at 1 rfl).lt
        have hbu := (S4.out.kn.at 0 rfl).lt
        refine ⟨v5, rfl, ?_, ?_⟩
        · exact ((O5.out.mono (Nat.le_trans HBASE.out S4.out.kn.below.size)).setRow (fun q => by have := (O5.out.lt bt q).1; omega) _).setRow (fun q => by have := (O5.out.lt bu q).1; omega) _
        · exact below_setRow (below_setRow S5.out.kn.below (by have := HB0.out; have := HLO.out; omega) _) (by have := HB0.out; have := HLO.out; omega) _
      | false =>
        have R0 := Lib.hid (show learnE mo l ⟨xv, xm, xp, 0⟩ = (putEn (l.eraseIdx (oldN l l.length)) ⟨xv, xm, xp, 0⟩, enA (l.getD (oldN l l.length) ⟨0, 0, 0, 0⟩), true) ∧ mo ≤ (l.length : Int) by
          have := RM.out.symm
          rw [Bool.or_eq_false_iff, decide_eq_false_iff_not, decide_eq_false_iff_not, AT.out, HN.out] at this
          unfold learnE
          rw [if_neg (by rw [HG.out]; decide), if_neg (by rintro (q | q); exact this.1 q; exact this.2 q)]
          exact ⟨rfl, by omega⟩)
        have HN1 := Lib.hid (show 1 ≤ n by have := R0.out.2; have := HMO.out; have := HN.out; omega)
        obtain ⟨g, hpg, hcap⟩ : ∃ g, p = some ⟨g, 0, none⟩ ∧ n ≤ cap ∧ cap ≤ maxLen := by
          rcases S4.out.own.cases with ⟨hv, hq⟩ | ⟨g, cap', hv, -, -, q1, q2⟩
          · have h1 := HN.out
            have := HN1.out
            rw [hq] at h1
            simp at h1
            omega
          · have e := hv
            rw [Value.slice.injEq] at e
            exact ⟨g, e.1, by rw [e.2.1, e.2.2]; exact q1, by rw [e.2.2]; exact q2⟩
        subst hpg
        have HAG := Lib.hid (show ∀ W, LQ w bf be bt bu mo li (.slice (some ⟨g, 0, none⟩) n cap) ⟨xv, xm, xp, 0⟩ l W → ∀ k, k < n → W.cell? ⟨g, k * 9 + 8, none⟩ = some (.int .i64 (l.getD k ⟨0, 0, 0, 0⟩).age) from fun W hW k hk => by
          have o := hW.own
          rw [HN.out] at o hk
          have e := o.at enC_len k 8 l[k] (List.getElem?_eq_getElem hk) (by omega)
          rw [e, List.getD_eq_getElem?_getD, List.getElem?_eq_getElem hk]
          rfl)
        have hnc : (n : Int) ≤ cap := by omega
        have HCAP := Lib.hid hcap
        have hn100 : (n : Int) ≤ 100 := by have := HL.out; have := HN.out; omega
        clear hcap
        go_upto_region 8 with fail
        go_loopw [7, 8] (fun o i wr => ∃ k : Nat, k ≤ n ∧ o = .int .i64 (oldN l k : Nat) ∧ i = .int .i64 k ∧ LQ w bf be bt bu mo li (.slice (some ⟨g, 0, none⟩) n cap) ⟨xv, xm, xp, 0⟩ l wr) (fun _ i _ => n - (intOf i).toNat)
        case atStart => exact ⟨0, Nat.zero_le _, rfl, rfl, S4.out⟩
        case round =>
          obtain ⟨k, hk, rfl, rfl, hS⟩ := hrel
          have HS := Lib.hid hS
          clear hS S4
          obtain ⟨o, hoe⟩ : ∃ o, oldN l k = o := ⟨_, rfl⟩
          have ho : o < n := by rw [← hoe, HN.out]; exact oldN_lt l k (by rw [← HN.out]; exact HN1.out) (by rw [← HN.out]; exact hk)
          rw [hoe]
          have c2 : wr.cell? ⟨bf, 2, none⟩ = some (.slice (some ⟨g, 0, none⟩) n cap) := (HS.out.kn.at 3 rfl).cell 2
          by_cases h1 : k < n
          · have HOK1 := Lib.hid (show oldN l (k + 1) = if (l.getD o ⟨0, 0, 0, 0⟩).age < (l.getD k ⟨0, 0, 0, 0⟩).age then k else o by rw [← hoe]; rfl)
            have hic : (k : Int) < (n : Int) := by omega
            have hoc : (o : Int) < (n : Int) := by omega
            obtain ⟨r, hr⟩ : ∃ r : Bool, decide ((l.getD o ⟨0, 0, 0, 0⟩).age < (l.getD k ⟨0, 0, 0, 0⟩).age) = r := ⟨_, rfl⟩
            have HRR := Lib.hid hr
            clear hr
            go_upto_region 10 with fail
            refine wp_region_quiet (C := LQ w bf be bt bu mo li (.slice (some ⟨g, 0, none⟩) n cap) ⟨xv, xm, xp, 0⟩ l) (by kernel_rfl) (by kernel_rfl) (HS.out.next (Below.refl _ _).drew) ?_
            (refine q_val (v := ?_) (by rfl) ?_ ?_; rotate_left; (· (intro w hC; go_simp; try with_reducible rfl)); (try simp only [Act.put, List.getElem_toArray, List.getElem_cons_succ, List.getElem_cons_zero, List.setIfInBounds_toArray, List.set_cons_zero, List.set_cons_succ]))
            (refine q_val (v := ?_) (by rfl) ?_ ?_; rotate_left; (· (intro w hC; have q := (hC.kn.at 3 rfl).cell 2; simp only [List.getElem?_toArray, List.getElem?_cons_succ, List.getElem?_cons_zero] at q; go_simp; try with_reducible rfl)); (try simp only [Act.put, List.getElem_toArray, List.getElem_cons_succ, List.getElem_cons_zero, List.setIfInBounds_toArray, List.set_cons_zero, List.set_cons_succ]))
            (refine q_val (v := ?_) (by rfl) ?_ ?_; rotate_left; (· (intro w hC; go_simp; try with_reducible rfl)); (try simp only [Act.put, List.getElem_toArray, List.getElem_cons_succ, List.getElem_cons_zero, List.setIfInBounds_toArray, List.set_cons_zero, List.set_cons_succ]))
            (refine q_val (v := ?_) (by rfl) ?_ ?_; rotate_left; (· (intro w hC; go_simp; try with_reducible rfl)); (try simp only [Act.put, List.getElem_toArray, List.getElem_cons_succ, List.getElem_cons_zero, List.setIfInBounds_toArray, List.set_cons_zero, List.set_cons_succ]))
            (refine q_val (v := ?_) (by rfl) ?_ ?_; rotate_left; (· (intro w hC; go_simp; try with_reducible rfl)); (try simp only [Act.put, List.getElem_toArray, List.getElem_cons_succ, List.getElem_cons_zero, List.setIfInBounds_toArray, List.set_cons_zero, List.set_cons_succ]))
            (refine q_val (v := ?_) (by rfl) ?_ ?_; rotate_left; (· (intro w hC; have q := HAG.out w hC k h1; go_simp; try with_reducible rfl)); (try simp only [Act.put, List.getElem_toArray, List.getElem_cons_succ, List.getElem_cons_zero, List.setIfInBounds_toArray, List.set_cons_zero, List.set_cons_succ]))
            (refine q_val (v := ?_) (by rfl) ?_ ?_; rotate_left; (· (intro w hC; go_simp; try with_reducible rfl)); (try simp only [Act.put, List.getElem_toArray, List.getElem_cons_succ, List.getElem_cons_zero, List.setIfInBounds_toArray, List.set_cons_zero, List.set_cons_succ]))
            (refine q_val (v := ?_) (by rfl) ?_ ?_; rotate_left; (· (intro w hC; have q := (hC.kn.at 3 rfl).cell 2; simp only [List.getElem?_toArray, List.getElem?_cons_succ, List.getElem?_cons_zero] at q; go_simp; try with_reducible rfl)); (try simp only [Act.put, List.getElem_toArray, List.getElem_cons_succ, List.getElem_cons_zero, List.setIfInBounds_toArray, List.set_cons_zero, List.set_cons_succ]))
            (refine q_val (v := ?_) (by rfl) ?_ ?_; rotate_left; (· (intro w hC; go_simp; try with_reducible rfl)); (try simp only [Act.put, List.getElem_toArray, List.getElem_cons_succ, List.getElem_cons_zero, List.setIfInBounds_toArray, List.set_cons_zero, List.set_cons_succ]))
            (refine q_val (v := ?_) (by rfl) ?_ ?_; rotate_left; (· (intro w hC; go_simp; try with_reducible rfl)); (try simp only [Act.put, List.getElem_toArray, List.getElem_cons_succ, List.getElem_cons_zero, List.setIfInBounds_toArray, List.set_cons_zero, List.set_cons_succ]))
            (refine q_val (v := ?_) (by rfl) ?_ ?_; rotate_left; (· (intro w hC; go_simp; try with_reducible rfl)); (try simp only [Act.put, List.getElem_toArray, List.getElem_cons_succ, List.getElem_cons_zero, List.setIfInBounds_toArray, List.set_cons_zero, List.set_cons_succ]))
            (refine q_val (v := ?_) (by rfl) ?_ ?_; rotate_left; (· (intro w hC; have q := HAG.out w hC o ho; go_simp; try with_reducible rfl)); (try simp only [Act.put, List.getElem_toArray, List.getElem_cons_succ, List.getElem_cons_zero, List.setIfInBounds_toArray, List.set_cons_zero, List.set_cons_succ]))
            (refine q_val (v := .bool r) (by rfl) (fun w hC => by rw [← HRR.out]; go_simp) ?_; (try simp only [Act.put, List.getElem_toArray, List.getElem_cons_succ, List.getElem_cons_zero, List.setIfInBounds_toArray, List.set_cons_zero, List.set_cons_succ]))
            refine wpQuiet_nil ?_
            intro w5 hC5
            have S5 := Lib.hid hC5
            clear hC5 c2
            cases r with
            | false =>
              go_wp2_with fail
              go_roundw
              case rel => exact ⟨k + 1, by omega, by rw [HOK1.out, if_neg (of_decide_eq_false HRR.out)], by go_num, S5.out⟩
              case measure => simp [intOf]; omega
            | true =>
              go_wp2_with fail
              go_roundw
              case rel => exact ⟨k + 1, by omega, by rw [HOK1.out, if_pos (of_decide_eq_true HRR.out)], by go_num, S5.out⟩
              case measure => simp [intOf]; omega
          · have hkn : k = n := by omega
            subst hkn
            have hic : ¬ (k : Int) < (k : Int) := by omega
            have hoc : (o : Int) < (k : Int) := by omega
            have R := Lib.hid (show learnE mo l ⟨xv, xm, xp, 0⟩ = (putEn (l.eraseIdx o) ⟨xv, xm, xp, 0⟩, enA (l.getD o ⟨0, 0, 0, 0⟩), true) by rw [R0.out.1, ← hoe, HN.out])
            have HO := Lib.hid ho
            obtain ⟨z, hz⟩ : ∃ z, z = l.getD o ⟨0, 0, 0, 0⟩ := ⟨_, rfl⟩
            have HRG := Lib.hid (show wr.rangeAt g (o * 9) (enA z).toList by
              intro j u hu
              have oo := HS.out.own
              have ho' := HO.out
              rw [HN.out] at oo ho'
              have hj : j < 9 := by simpa using (List.getElem?_eq_some_iff.1 hu).1
              have e := oo.at enC_len o j l[o] (List.getElem?_eq_getElem ho') hj
              rw [e]
              rw [hz, List.getD_eq_getElem?_getD, List.getElem?_eq_getElem ho'] at hu
              exact hu)
            rw [← hz] at R
            obtain ⟨arr, harr⟩ : ∃ arr, arr = enA z := ⟨_, rfl⟩
            have HARR := Lib.hid harr
            have HAS := Lib.hid (show arr.size = 9 by rw [harr]; rfl)
            have HA1 := Lib.hid (show arr.all (·.oneCell') = true by rw [harr]; exact enA_one z)
            have SZA := Lib.hid (show (Try.prog.info? 38).map (·.size) = some arr.size by rw [HAS.out]; exact enSize)
            rw [← harr] at HRG R
            have RB := Lib.hid (show (wr.alloc (.cells enNilB 38)).heap[wr.heap.size]? = some (.cells enNilB 38 (0, 0)) from heap_alloc_new wr _)
            clear hoe ho hk harr hz
            go_upto_region 13 with (first
              | (refine wpList_val (.agg arr) (by rfl) (run_loadRange 38 _ rfl g (o * 9) rfl arr _ HRG.out Try.underlying38 rfl SZA.out) ?_)
              | (refine wpList_store_row rfl 38 _ _ rfl wr.heap.size arr rfl rfl 38 enNilB RB.out SZA.out (by rw [HAS.out]; rfl) HA1.out ?_))
            obtain ⟨bg, hbg⟩ : ∃ bg, bg = wr.heap.size := ⟨_, rfl⟩
            obtain ⟨W1, hW1⟩ : ∃ W1, W1 = (wr.alloc (.cells enNilB 38)).setRow bg arr := ⟨_, rfl⟩
            have KG := Lib.hid (show Blk W1 bg arr 38 by rw [hW1, hbg]; exact (Blk.new wr enNilB 38).row arr)
            have hbb : Below wr.heap.size wr W1 := by rw [hW1]; exact below_setRow ((Below.refl _ _).alloc (Nat.le_refl _) _) (by rw [hbg]; exact Nat.le_refl _) arr
            have L1 := Lib.hid (HS.out.next hbb)
            have HBG := Lib.hid (show bu < bg by rw [hbg]; exact (HS.out.kn.at 0 rfl).lt)
            rw [← hbg, ← hW1]
            clear hbg hW1 hbb c2
            have c2 : W1.cell? ⟨bf, 2, none⟩ = some (.slice (some ⟨g, 0, none⟩) k cap) := (L1.out.kn.at 3 rfl).cell 2
            have HWO := Lib.hid (show Calls Try.prog 46 #[.slice (some ⟨g, 0, none⟩) k cap, .int .i64 (o : Nat)] W1 fun e w' => ∃ v', e = .returned v' ∧ Own w' W1.heap.size 38 9 enC v' (l.eraseIdx o) ∧ Below W1.heap.size W1 w' from by
              have oo := L1.out.own
              rw [HN.out] at oo ⊢
              exact rwithout9 0 g cap o l W1 oo ⟨by have := HCAP.out.1; have := HN.out; omega, HCAP.out.2⟩ (by have := HL.out; omega) (by have := HO.out; have := HN.out; omega))
            go_upto_region 13 with fail
            simp only [Act.put]
            go_cut [] (fun wx => ∃ v1, Own wx W1.heap.size 38 9 enC v1 (l.eraseIdx o) ∧ Kn w [(bu, enNilB, 38), (bt, #[.int .i64 0, .int .i64 0, .slice none 0 0], 28), (bg, arr, 38), (be, enA ⟨xv, xm, xp, 0⟩, 38), (bf, #[.int .i64 mo, .int .i64 li, v1], 28)] wx ∧ W1.heap.size ≤ wx.heap.size)
            case first =>
              go_wp2_with (first
                | (go_at_call 46; refine HWO.out.mono ?_; rintro e w3 ⟨v1, rfl, o3, hb3⟩; have O3 := Lib.hid o3; have L3 := Lib.hid (L1.out.next hb3); have KG3 := Lib.hid (KG.out.below hb3 KG.out.lt); have SZ3 := Lib.hid hb3.size; have HST := Lib.hid (store_slice o3 ((L3.out.kn.at 3 rfl))); clear o3 hb3)
                | (refine wpList_plain rfl fun _ hK => wp_store_cell 26 _ _ rfl ⟨bf, 2, none⟩ v1 rfl rfl HST.out (hK _ _ ?_)))
              go_meet
              refine ⟨v1, O3.out.setCell (a := ⟨bf, 2, none⟩) (fun q => by have := (O3.out.lt bf q).1; have := (L1.out.kn.at 3 rfl).lt; omega) v1, ⟨fun y hy => ?_, L3.out.kn.below.setCell (show w.heap.size ≤ (⟨bf, 2, none⟩ : Addr).block from HLO.out) _⟩, by simpa using SZ3.out⟩
              simp only [List.mem_cons, List.not_mem_nil, or_false] at hy
              rcases hy with rfl | rfl | rfl | rfl | rfl
              · exact (L3.out.kn.at 0 rfl).other (a := ⟨bf, 2, none⟩) (by have := HB0.out; simp; omega) _
              · exact (L3.out.kn.at 1 rfl).other (a := ⟨bf, 2, none⟩) (by have := HB0.out; simp; omega) _
              · exact KG3.out.other (a := ⟨bf, 2, none⟩) (by have := HB0.out; have := HBG.out; simp; omega) _
              · exact (L3.out.kn.at 2 rfl).other (a := ⟨bf, 2, none⟩) (by have := HB0.out; simp; omega) _
              · exact (L3.out.kn.at 3 rfl).set 2 v1
            case rest =>
              obtain ⟨v1, o3, kn3, sz3⟩ := hcut
              obtain ⟨W3, hW3⟩ : ∃ W3, W3 = wc := ⟨_, rfl⟩
              rw [← hW3] at o3 kn3 sz3 ⊢
              have O3 := Lib.hid o3
              have K3 := Lib.hid kn3
              clear c2 hW3
              go_upto_region 14 with fail
              have KB := Lib.hid (show Kn w [(bu, enNilC, 38), (bt, #[.int .i64 0, .int .i64 0, .slice none 0 0], 28), (bg, arr, 38), (be, enA ⟨xv, xm, xp, 0⟩, 38), (bf, #[.int .i64 mo, .int .i64 li, v1], 28)] W3.drew from kn3.drew)
              have HBLT := Lib.hid (show bg < W3.drew.heap.size from (kn3.at 2 rfl).lt)
              have HPUT3 := Lib.hid (rput9 W3.drew.heap.size W1.heap.size mo li v1 (l.eraseIdx o) ⟨xv, xm, xp, 0⟩ W3.drew o3.drew (fun y hy => HOK.out y (List.mem_of_mem_eraseIdx hy)) HXO.out (Nat.le_refl _) (Nat.le_trans (List.length_eraseIdx_le _ _) HL.out))
              clear o3 kn3 sz3
              refine wp_region_inv (I := L14I w bf be bt bu bg mo li v1 ⟨xv, xm, xp, 0⟩ arr W3.drew.heap.size (putEn (l.eraseIdx o) ⟨xv, xm, xp, 0⟩) W3.drew _ _ _ _ _ _ _ _ _ _ _ _ _ _ _ _ _ _ _ _ _ _ _ _ _ _ _ _ _ _ _ _ _ _ _ _ _ _ _ _ _ _ _ _ _ _ _ _ _ _ _ _ _ _ _ _ _ _ _ _) (by kernel_rfl) (by kernel_rfl) ⟨_, _, _, _, _, rfl, ⟨fun h => Bool.noConfusion h, fun h => Bool.noConfusion h, fun h => Bool.noConfusion h, fun h => Bool.noConfusion h, fun h => Bool.noConfusion h, fun _ => ⟨rfl, rfl, rfl⟩, fun h => Bool.noConfusion h⟩⟩ ?_ ?_
              · intro i hi L ac w' hI hL haft
                obtain ⟨v6, v66, v67, v68, v69, rfl, hs⟩ := hI
                match i, hi with
                | 0, _ =>
                have h2 : L 2 = false := by cases c : L 2 with | false => rfl | true => (have := (hs.dep c).1; rw [hL] at this; cases this)
                obtain ⟨hw, h4, h5⟩ := hs.o2 h2
                subst hw
                exact i_val rfl (.agg #[.int .i64 mo, .int .i64 li, v1]) _ (by rfl) (run_loadVar_of 28 _ rfl bf rfl 28 #[.int .i64 mo, .int .i64 li, v1] _ (KB.out.at 4 rfl) Try.underlying28 rfl SZF.out) ⟨v6, _, v67, v68, v69, rfl, ⟨fun _ => rfl, hs.e67, hs.e69, hs.e6, fun q => absurd (show L 2 = true from q) (by rw [h2]; decide), fun _ => ⟨rfl, h4, h5⟩, fun q => absurd (show L 2 = true from q) (by rw [h2]; decide)⟩⟩
                | 1, _ =>
                have h2 : L 2 = false := by cases c : L 2 with | false => rfl | true => (have := (hs.dep c).2; rw [hL] at this; cases this)
                obtain ⟨hw, h4, h5⟩ := hs.o2 h2
                subst hw
                exact i_val rfl (enV ⟨xv, xm, xp, 0⟩) _ (by rfl) (run_loadVar_of 38 _ rfl be rfl 38 (enA ⟨xv, xm, xp, 0⟩) _ (KB.out.at 3 rfl) Try.underlying38 rfl SZE.out) ⟨v6, v66, _, v68, v69, rfl, ⟨hs.e66, fun _ => rfl, hs.e69, hs.e6, fun q => absurd (show L 2 = true from q) (by rw [h2]; decide), fun _ => ⟨rfl, h4, h5⟩, fun q => absurd (show L 2 = true from q) (by rw [h2]; decide)⟩⟩
                | 2, _ =>
                have h0 := haft 0 (by decide)
                have h1 := haft 1 (by decide)
                obtain ⟨hw, h4, h5⟩ := hs.o2 hL
                subst hw
                have e0 := hs.e66 h0
                have e1 := hs.e67 h1
                subst e0
                subst e1
                refine i_callx rfl 42 #[.agg #[.int .i64 mo, .int .i64 li, v1], enV ⟨xv, xm, xp, 0⟩] (fun v w' => ∃ vp, v = .agg #[.int .i64 mo, .int .i64 li, vp] ∧ Own w' W3.drew.heap.size 38 9 enC vp (putEn (l.eraseIdx o) ⟨xv, xm, xp, 0⟩) ∧ Below W3.drew.heap.size W3.drew w') (by rfl) (by go_simp) (HPUT3.out.mono fun e w' ⟨vp, q1, q2, q3⟩ => ⟨_, q1, vp, rfl, q2, q3⟩) ?_
                rintro v w' ⟨vp, rfl, q2, q3⟩
                refine ⟨v6, _, _, _, v69, rfl, ⟨fun _ => rfl, fun _ => rfl, hs.e69, hs.e6, fun _ => ⟨h0, h1⟩, fun q => absurd (show upd L 2 2 = true from rfl) (by rw [q]; decide), fun _ => ⟨vp, rfl, q2, ?_⟩⟩⟩
                have e4 : upd L 2 4 = false := h4
                have e5 : upd L 2 5 = false := h5
                rw [e4, e5]
                exact KB.out.next q3
                | 3, _ =>
                have hbg : Blk w' bg arr 38 := by
                  cases c : L 2 with
                  | false =>
                    obtain ⟨hw, -, -⟩ := hs.o2 c
                    subst hw
                    exact KB.out.at 2 rfl
                  | true =>
                    obtain ⟨vp, -, -, kn⟩ := hs.y2 c
                    exact kn.at 2 rfl
                exact i_val rfl (.agg arr) _ (by rfl) (run_loadVar_of 38 _ rfl bg rfl 38 arr _ hbg Try.underlying38 rfl SZA.out) ⟨v6, v66, v67, v68, _, rfl, ⟨hs.e66, hs.e67, fun _ => rfl, hs.e6, hs.dep, hs.o2, hs.y2⟩⟩
                | 4, _ =>
                have h2 := haft 2 (by decide)
                obtain ⟨vp, rfl, ow, kn⟩ := hs.y2 h2
                have hlt : ∀ q, vp.ownBlock = some q → W3.drew.heap.size ≤ q := fun q hq => (ow.lt q hq).1
                have kn' : Kn w [(bu, if L 5 = true then arr else enNilC, 38), (bt, #[.int .i64 0, .int .i64 0, .slice none 0 0], 28), (bg, arr, 38), (be, enA ⟨xv, xm, xp, 0⟩, 38), (bf, #[.int .i64 mo, .int .i64 li, v1], 28)] w' := by rw [hL] at kn; exact kn
                refine i_wp rfl (by rfl) (wp_store_row 28 _ _ rfl bt #[.int .i64 mo, .int .i64 li, vp] rfl rfl 28 #[.int .i64 0, .int .i64 0, .slice none 0 0] (kn'.at 1 rfl) SZF.out rfl (fd_one mo li ow) ⟨v6, v66, v67, _, v69, rfl, ⟨hs.e66, hs.e67, hs.e69, hs.e6, hs.dep, fun q => absurd (show L 2 = false from q) (by rw [h2]; decide), fun _ => ⟨vp, rfl, ow.setRow (fun q => by have := hlt _ q; have := HBLT.out; have := HBG.out; have := HB0.out; omega) _, ?_⟩⟩⟩)
                have e4 : upd L 4 4 = true := rfl
                have e5 : upd L 4 5 = L 5 := rfl
                rw [e4, e5]
                refine ⟨fun y hy => ?_, below_setRow kn'.below (by have := HB0.out; have := HLO.out; omega) _⟩
                simp only [List.mem_cons, List.not_mem_nil, or_false] at hy
                rcases hy with rfl | rfl | rfl | rfl | rfl
                · exact (kn'.at 0 rfl).rowOther (by have := HB0.out; omega) _
                · exact (kn'.at 1 rfl).row _
                · exact (kn'.at 2 rfl).rowOther (by have := HBG.out; have := HB0.out; omega) _
                · exact (kn'.at 3 rfl).rowOther (by have := HB0.out; omega) _
                · exact (kn'.at 4 rfl).rowOther (by have := HB0.out; omega) _
                | 5, _ =>
                have h3 := haft 3 (by decide)
                have h4 := haft 4 (by decide)
                have h2 : L 2 = true := by cases c : L 2 with | true => rfl | false => (have := (hs.o2 c).2.1; rw [h4] at this; cases this)
                obtain ⟨vp, rfl, ow, kn⟩ := hs.y2 h2
                have e69 := hs.e69 h3
                subst e69
                have hlt : ∀ q, vp.ownBlock = some q → W3.drew.heap.size ≤ q := fun q hq => (ow.lt q hq).1
                have kn' : Kn w [(bu, enNilC, 38), (bt, #[.int .i64 mo, .int .i64 li, vp], 28), (bg, arr, 38), (be, enA ⟨xv, xm, xp, 0⟩, 38), (bf, #[.int .i64 mo, .int .i64 li, v1], 28)] w' := by rw [hL, h4] at kn; exact kn
                refine i_wp rfl (by rfl) (wp_store_row 38 _ _ rfl bu arr rfl rfl 38 enNilC (kn'.at 0 rfl) SZA.out (by rw [HAS.out]; rfl) HA1.out ⟨v6, v66, v67, _, _, rfl, ⟨hs.e66, hs.e67, fun _ => rfl, hs.e6, hs.dep, fun q => absurd (show L 2 = false from q) (by rw [h2]; decide), fun _ => ⟨vp, rfl, ow.setRow (fun q => by have := hlt _ q; have := HBLT.out; have := HBG.out; have := HB0.out; omega) _, ?_⟩⟩⟩)
                have e4 : upd L 5 4 = L 4 := rfl
                have e5 : upd L 5 5 = true := rfl
                rw [e4, e5, h4]
                refine ⟨fun y hy => ?_, below_setRow kn'.below (by have := HB0.out; have := HLO.out; omega) _⟩
                simp only [List.mem_cons, List.not_mem_nil, or_false] at hy
                rcases hy with rfl | rfl | rfl | rfl | rfl
                · exact (kn'.at 0 rfl).row _
                · exact (kn'.at 1 rfl).rowOther (by have := HB0.out; omega) _
                · exact (kn'.at 2 rfl).rowOther (by have := HBG.out; have := HB0.out; omega) _
                · exact (kn'.at 3 rfl).rowOther (by have := HB0.out; omega) _
                · exact (kn'.at 4 rfl).rowOther (by have := HB0.out; omega) _
                | 6, _ =>
                exact i_val rfl (.bool true) _ (by rfl) (by go_simp) ⟨_, v66, v67, v68, v69, rfl, ⟨hs.e66, hs.e67, hs.e69, fun _ => rfl, hs.dep, hs.o2, hs.y2⟩⟩
                | k + 7, h =>
                  exfalso
                  have h2 : k + 7 < 7 := h
                  omega
              intro L ac w' hI hall
              obtain ⟨v6, v66, v67, v68, v69, rfl, hs⟩ := hI
              obtain ⟨vp, rfl, ow, kn⟩ := hs.y2 (hall 2 (by decide))
              have e6 := hs.e6 (hall 6 (by decide))
              subst e6
              rw [hall 4 (by decide), hall 5 (by decide)] at kn
              have KN := Lib.hid kn
              have OW := Lib.hid ow
              clear hs hall kn ow
              go_wp2_with fail
              refine bodyPost_ret (v := .tuple #[.agg #[.int .i64 mo, .int .i64 li, vp], .agg arr, .bool true]) (results_row_row_tmp Try.results21 _ _ bt bu 28 38 #[.int .i64 mo, .int .i64 li, vp] arr _ _ _ rfl rfl rfl (KN.out.at 1 rfl) (KN.out.at 0 rfl) Try.underlying28 rfl SZF.out Try.underlying38 rfl SZA.out) rfl ?_
              rw [R.out]
              exact ⟨vp, rfl, OW.out.mono (Nat.le_trans HBASE.out K3.out.below.size), KN.out.below⟩
end Go.Proofs.Ytilklfmcdgggfaa
end
