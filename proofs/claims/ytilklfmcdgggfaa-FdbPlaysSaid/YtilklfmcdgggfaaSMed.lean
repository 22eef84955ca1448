/- sort.order2_func, median_func, medianAdjacent_func, where the one that compares may make memory. -/
import Derived.Test.YtilklfmcdgggfaaSrt
import Derived.Deep.DeepCutAuto
import Derived.Shelf.GgSortFunc.LotD
namespace Go.Proofs.Ytilklfmcdgggfaa
open Go.Shelf Go.RowKit Go.Lib Go.Sort
set_option linter.unusedVariables false
set_option linter.unusedSimpArgs false

/-- What was made since a world is as it was, but for one block. -/
structure KX (w0 : World) (c : Nat) (W W' : World) : Prop where
  size : W.heap.size ≤ W'.heap.size
  block : ∀ i, w0.heap.size ≤ i → i < W.heap.size → i ≠ c → W'.heap[i]? = W.heap[i]?
theorem KX.ofKB {w0 W W' : World} {c : Nat} (h : KB w0 W W') : KX w0 c W W' := ⟨h.size, fun i h1 h2 _ => h.block i h1 h2⟩
theorem KX.trans {w0 W1 W2 W3 : World} {c : Nat} (h : KX w0 c W1 W2) (h2 : KX w0 c W2 W3) : KX w0 c W1 W3 :=
  ⟨Nat.le_trans h.size h2.size, fun i hi hk hc => (h2.block i hi (Nat.lt_of_lt_of_le hk h.size) hc).trans (h.block i hi hk hc)⟩
theorem KX.set {w0 W : World} {c j : Nat} (u : Value) : KX w0 c W (W.setCell ⟨c, j, none⟩ u) :=
  ⟨by simp, fun i _ _ hc => Below.heap_setCell W ⟨c, j, none⟩ u i hc⟩
theorem Bx.kx {w0 W W' : World} {b c : Nat} {cs : Array Value} {t : TypeId} (h : Bx w0 W b cs t) (hk : KX w0 c W W') (hc : b ≠ c) : Bx w0 W' b cs t := ⟨h.1, (hk.block b h.1 h.2.lt hc).trans h.2⟩
theorem Bx.set {w0 W : World} {b j : Nat} {cs : Array Value} {t : TypeId} (h : Bx w0 W b cs t) (u : Value) : Bx w0 (W.setCell ⟨b, j, none⟩ u) b (cs.setIfInBounds j u) t := ⟨h.1, h.2.set j u⟩
/-- A new block, but for which all is as it was. -/
theorem KX.toKB {w0 W W1 W' : World} {c : Nat} (h : KB w0 W W1) (hc : W.heap.size ≤ c) (h2 : KX w0 c W1 W') : KB w0 W W' :=
  ⟨Nat.le_trans h.size h2.size, fun i h1 h3 => (h2.block i h1 (Nat.lt_of_lt_of_le h3 h.size) (by omega)).trans (h.block i h1 h3)⟩

variable {α : Type} [Inhabited α] {enc : α → List Value} {k n : Nat} {w0 : World} {blk g sf : Nat} {lb sb : Array Value} {lt : α → α → Bool}
theorem Rw.set {W : World} {d : Array α} {c j : Nat} (h : Rw enc k n w0 blk d W) (hc : w0.heap.size ≤ c) (u : Value) : Rw enc k n w0 blk d (W.setCell ⟨c, j, none⟩ u) := h.setNew hc u

set_option maxHeartbeats 4000000 in
set_option maxRecDepth 100000 in
theorem order2_any (S : SortBy g lb sf sb enc k n lt blk w0) {W : World} {d : Array α} (hW : Rw enc k n w0 blk d W) (a b s c : Nat) (ha : a < n) (hb : b < n) (hc : Bx w0 W c #[.int .i64 (s : Nat)] 3) (hs : s < 1000) :
    Calls Try.prog 90 #[.agg (twoA g lb sf sb), .int .i64 a, .int .i64 b, .pointer (some ⟨c, 0, none⟩)] W fun e w' =>
      e = .returned (.tuple #[.int .i64 ((order2 lt d a b s).1 : Nat), .int .i64 ((order2 lt d a b s).2.1 : Nat)]) ∧ Rw enc k n w0 blk d w' ∧ Bx w0 w' c #[.int .i64 ((order2 lt d a b s).2.2 : Nat)] 3 ∧ KX w0 c W w' := by
  have eg := S.eg
  obtain ⟨W1, hW1⟩ : ∃ W1, W1 = W.alloc (.cells (twoA g lb sf sb) 125) := ⟨_, rfl⟩
  obtain ⟨B, hB⟩ : ∃ B, B = W.heap.size := ⟨_, rfl⟩
  have R1 := Lib.hid (show Rw enc k n w0 blk d W1 by rw [hW1]; exact hW.alloc _)
  have X1 := Lib.hid (show Bx w0 W1 B (twoA g lb sf sb) 125 by rw [hW1, hB]; exact Bx.new hW.le _ _)
  have K1 := Lib.hid (show KB w0 W W1 by rw [hW1]; exact (KB.refl _ _).alloc _)
  have C1 := Lib.hid (hc.kb K1.out)
  have hl := S.less R1.out b a hb ha
  have c0 := X1.out.cell 0
  simp only [List.getElem?_toArray, List.getElem?_cons_zero, List.getElem?_cons_succ] at c0
  have RES := Lib.hid (show order2 lt d a b s = if lt d[b]! d[a]! then (b, a, s + 1) else (a, b, s) from rfl)
  go_enter Try.func90, Try.ntmps90
  go_upto_region 1 with fail
  rw [← hW1, ← hB]
  clear hW1 hB hW hc
  cases hlv : lt d[b]! d[a]! with
  | true =>
    have R2 := Lib.hid (show order2 lt d a b s = (b, a, s + 1) by rw [RES.out, hlv]; rfl)
    rw [hlv] at hl
    go_upto_region 2 with (go_at_fn g; refine hl.mono ?_; rintro e w3 ⟨rfl, hR3, hK3⟩)
    have HR3 := Lib.hid hR3
    have HK3 := Lib.hid hK3
    have C3 := Lib.hid (C1.out.kb hK3)
    have cc := C3.out.cell 0
    have cf := C3.out.2.free 0
    simp only [List.getElem?_toArray, List.getElem?_cons_zero, List.getElem?_cons_succ] at cc
    clear hl c0 hR3 hK3
    go_wp2
    go_ret2
    refine ⟨by rw [R2.out]; rfl, HR3.out.set C3.out.1 _, ?_, ((KX.ofKB (K1.out.trans HK3.out)).trans (KX.set _))⟩
    rw [R2.out]
    have q := C3.out.set (j := 0) (.int .i64 ((s : Int) + 1))
    simpa using q
  | false =>
    have R2 := Lib.hid (show order2 lt d a b s = (a, b, s) by rw [RES.out, hlv]; rfl)
    rw [hlv] at hl
    go_wp2_with (go_at_fn g; refine hl.mono ?_; rintro e w3 ⟨rfl, hR3, hK3⟩)
    go_ret2
    refine ⟨by rw [R2.out]; rfl, hR3, ?_, KX.ofKB (K1.out.trans hK3)⟩
    rw [R2.out]
    exact C1.out.kb hK3

set_option maxHeartbeats 4000000 in
set_option maxRecDepth 100000 in
theorem median_any (S : SortBy g lb sf sb enc k n lt blk w0) {W : World} {d : Array α} (hW : Rw enc k n w0 blk d W) (a b c s p : Nat) (ha : a < n) (hb : b < n) (hc : c < n) (hp : Bx w0 W p #[.int .i64 (s : Nat)] 3) (hs : s < 900) :
    Calls Try.prog 89 #[.agg (twoA g lb sf sb), .int .i64 a, .int .i64 b, .int .i64 c, .pointer (some ⟨p, 0, none⟩)] W fun e w' =>
      e = .returned (.int .i64 ((median lt d a b c s).1 : Nat)) ∧ Rw enc k n w0 blk d w' ∧ Bx w0 w' p #[.int .i64 ((median lt d a b c s).2 : Nat)] 3 ∧ KX w0 p W w' := by
  obtain ⟨W1, hW1⟩ : ∃ W1, W1 = W.alloc (.cells (twoA g lb sf sb) 125) := ⟨_, rfl⟩
  obtain ⟨B, hB⟩ : ∃ B, B = W.heap.size := ⟨_, rfl⟩
  have R1 := Lib.hid (show Rw enc k n w0 blk d W1 by rw [hW1]; exact hW.alloc _)
  have X1 := Lib.hid (show Bx w0 W1 B (twoA g lb sf sb) 125 by rw [hW1, hB]; exact Bx.new hW.le _ _)
  have K1 := Lib.hid (show KB w0 W W1 by rw [hW1]; exact (KB.refl _ _).alloc _)
  have C1 := Lib.hid (hp.kb K1.out)
  have NE := Lib.hid (show B ≠ p by have := hp.2.lt; omega)
  obtain ⟨r1, hr1⟩ : ∃ r1, r1 = order2 lt d a b s := ⟨_, rfl⟩
  obtain ⟨r2, hr2⟩ : ∃ r2, r2 = order2 lt d r1.2.1 c r1.2.2 := ⟨_, rfl⟩
  obtain ⟨r3, hr3⟩ : ∃ r3, r3 = order2 lt d r1.1 r2.1 r2.2.2 := ⟨_, rfl⟩
  have RES := Lib.hid (show median lt d a b c s = (r3.2.1, r3.2.2) by rw [hr3, hr2, hr1]; rfl)
  have L1 : r1.1 < n ∧ r1.2.1 < n := by rw [hr1]; exact order2_lt' lt d s ha hb
  have S1 : r1.2.2 ≤ s + 1 := by rw [hr1]; exact order2_swaps' lt d a b s
  have L2 : r2.1 < n ∧ r2.2.1 < n := by rw [hr2]; exact order2_lt' lt d _ L1.2 hc
  have S2 : r2.2.2 ≤ r1.2.2 + 1 := by rw [hr2]; exact order2_swaps' lt d _ _ _
  have c1 := order2_any S R1.out a b s p ha hb C1.out (by omega)
  rw [← hr1] at c1
  have H1 := Lib.hid (L1)
  have H2 := Lib.hid (L2)
  have HS := Lib.hid (show r1.2.2 < 1000 ∧ r2.2.2 < 1000 by omega)
  have Q2 := Lib.hid hr2
  have Q3 := Lib.hid hr3
  have HC := Lib.hid hc
  obtain ⟨a1, b1, s1⟩ := r1
  obtain ⟨a2, b2, s2⟩ := r2
  obtain ⟨a3, b3, s3⟩ := r3
  simp only at c1 Q2 Q3 HS H1 H2
  go_enter Try.func89, Try.ntmps89
  go_upto_region 1 with fail
  rw [← hW1, ← hB]
  clear hW1 hB hW hp hr1 hr2 hr3 L1 L2 S1 S2 hc
  have f0 := X1.out.cell 0
  have f1 := X1.out.cell 1
  simp only [List.getElem?_toArray, List.getElem?_cons_zero, List.getElem?_cons_succ] at f0 f1
  go_upto_region 2 with (go_at_call 90; refine c1.mono ?_; rintro e w2 ⟨rfl, hR2, hC2, hK2⟩)
  have X2 := Lib.hid (X1.out.kx hK2 NE.out)
  have c2 := order2_any S hR2 b1 c s1 p H1.out.2 HC.out hC2 HS.out.1
  rw [← Q2.out] at c2
  have KK2 := Lib.hid hK2
  clear f0 f1 hR2 hC2 hK2 c1
  have f0 := X2.out.cell 0
  have f1 := X2.out.cell 1
  simp only [List.getElem?_toArray, List.getElem?_cons_zero, List.getElem?_cons_succ] at f0 f1
  go_upto_region 3 with (go_at_call 90; refine c2.mono ?_; rintro e w3 ⟨rfl, hR2, hC2, hK2⟩)
  have X3 := Lib.hid (X2.out.kx hK2 NE.out)
  have c3 := order2_any S hR2 a1 a2 s2 p H1.out.1 H2.out.1 hC2 HS.out.2
  rw [← Q3.out] at c3
  have KK3 := Lib.hid hK2
  clear f0 f1 hR2 hC2 hK2 c2
  have f0 := X3.out.cell 0
  have f1 := X3.out.cell 1
  simp only [List.getElem?_toArray, List.getElem?_cons_zero, List.getElem?_cons_succ] at f0 f1
  go_upto_region 4 with (go_at_call 90; refine c3.mono ?_; rintro e w4 ⟨rfl, hR2, hC2, hK2⟩)
  go_wp2
  go_ret
  refine ⟨by rw [RES.out]; rfl, hR2, by rw [RES.out]; exact hC2, (((KX.ofKB K1.out).trans KK2.out).trans KK3.out).trans hK2⟩

set_option maxHeartbeats 4000000 in
set_option maxRecDepth 100000 in
theorem medAdj_any (S : SortBy g lb sf sb enc k n lt blk w0) {W : World} {d : Array α} (hW : Rw enc k n w0 blk d W) (a s p : Nat) (ha : 1 ≤ a) (ha2 : a + 1 < n) (hp : Bx w0 W p #[.int .i64 (s : Nat)] 3) (hs : s < 900) :
    Calls Try.prog 88 #[.agg (twoA g lb sf sb), .int .i64 a, .pointer (some ⟨p, 0, none⟩)] W fun e w' =>
      e = .returned (.int .i64 ((medianAdjacent lt d a s).1 : Nat)) ∧ Rw enc k n w0 blk d w' ∧ Bx w0 w' p #[.int .i64 ((medianAdjacent lt d a s).2 : Nat)] 3 ∧ KX w0 p W w' := by
  obtain ⟨W1, hW1⟩ : ∃ W1, W1 = W.alloc (.cells (twoA g lb sf sb) 125) := ⟨_, rfl⟩
  obtain ⟨B, hB⟩ : ∃ B, B = W.heap.size := ⟨_, rfl⟩
  have R1 := Lib.hid (show Rw enc k n w0 blk d W1 by rw [hW1]; exact hW.alloc _)
  have X1 := Lib.hid (show Bx w0 W1 B (twoA g lb sf sb) 125 by rw [hW1, hB]; exact Bx.new hW.le _ _)
  have K1 := Lib.hid (show KB w0 W W1 by rw [hW1]; exact (KB.refl _ _).alloc _)
  have C1 := Lib.hid (hp.kb K1.out)
  have hf := S.few
  have c1 := median_any S R1.out (a - 1) a (a + 1) s p (by omega) (by omega) (by omega) C1.out hs
  rw [show (((a - 1 : Nat) : Int)) = (a : Int) - 1 by omega, show (((a + 1 : Nat) : Int)) = (a : Int) + 1 by omega] at c1
  go_enter Try.func88, Try.ntmps88
  go_upto_region 1 with fail
  rw [← hW1, ← hB]
  clear hW1 hB hW hp
  have f0 := X1.out.cell 0
  have f1 := X1.out.cell 1
  simp only [List.getElem?_toArray, List.getElem?_cons_zero, List.getElem?_cons_succ] at f0 f1
  go_wp2_with (go_at_call 89; refine c1.mono ?_; rintro e w2 ⟨rfl, hR2, hC2, hK2⟩)
  go_ret
  exact ⟨rfl, hR2, hC2, (KX.ofKB K1.out).trans hK2⟩
end Go.Proofs.Ytilklfmcdgggfaa
