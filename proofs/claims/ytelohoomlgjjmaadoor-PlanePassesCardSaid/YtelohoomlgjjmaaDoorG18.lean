import Derived.Shelf.SlSortFuncK.SWK
import Derived.Test.YtelohoomlgjjmaaDoorProg
import Derived.Test.YtelohoomlgjjmaaDoorG1
import Derived.Below
import Derived.WalkKit
import Derived.Lib.Hide
import Derived.Deep.DeepCutAuto
import Derived.Shelf.GgSortFunc.LotD
import Derived.Sort.LotD4
import Derived.Deep.CutBlock
import Derived.Sort.WalkC
import Derived.Sort.LotC
set_option linter.unusedSimpArgs false
set_option linter.unusedVariables false
namespace Go.Proofs.YtelohoomlgjjmaaDoor
section
/- Sorting by a function that may make memory: what the walks of package sort lean on. -/
open Go.Shelf Go.RowKit Go.Lib Go.Sort

/-- What was made since a world is as it was. -/
structure KB (w0 W W' : World) : Prop where
  size : W.heap.size ≤ W'.heap.size
  block : ∀ i, w0.heap.size ≤ i → i < W.heap.size → W'.heap[i]? = W.heap[i]?
theorem KB.refl (w0 W : World) : KB w0 W W := ⟨Nat.le_refl _, fun _ _ _ => rfl⟩
theorem KB.trans {w0 W1 W2 W3 : World} (h : KB w0 W1 W2) (h2 : KB w0 W2 W3) : KB w0 W1 W3 :=
  ⟨Nat.le_trans h.size h2.size, fun i hi hk => (h2.block i hi (Nat.lt_of_lt_of_le hk h.size)).trans (h.block i hi hk)⟩
theorem KB.alloc {w0 W1 W2 : World} (h : KB w0 W1 W2) (o : Obj) : KB w0 W1 (W2.alloc o) :=
  h.trans ⟨by simp, fun i _ hi => Below.heap_alloc W2 o i hi⟩
theorem KB.ofBelow {w0 W1 W2 : World} (h : Below W1.heap.size W1 W2) : KB w0 W1 W2 := ⟨h.size, fun i _ hi => h.block i hi⟩
theorem KB.cell {w0 W1 W2 : World} (h : KB w0 W1 W2) {p : Addr} (h1 : w0.heap.size ≤ p.block) (h2 : p.block < W1.heap.size) : W2.cell? p = W1.cell? p := by
  simp only [World.cell?, h.block p.block h1 h2]
theorem KB.frozen {w0 W1 W2 : World} (h : KB w0 W1 W2) {p : Addr} (h1 : w0.heap.size ≤ p.block) (h2 : p.block < W1.heap.size) : W2.frozen? p = W1.frozen? p := by
  simp only [World.frozen?, h.block p.block h1 h2]

section
variable {α : Type} [Inhabited α]

/-- The row holds these; of the blocks that were there it alone has turned. -/
structure Rw (enc : α → List Value) (k n : Nat) (w0 : World) (blk : Nat) (d : Array α) (W : World) : Prop where
  hold : HoldsK enc k W blk 0 d
  size : d.size = n
  grown : w0.grownBy W (some blk)
  old : blk < w0.heap.size

/-- What sorts: by which function, and which one swaps. -/
structure SortBy (g : Nat) (lb : Array Value) (sf : Nat) (sb : Array Value) (enc : α → List Value) (k n : Nat) (lt : α → α → Bool) (blk : Nat) (w0 : World) : Prop where
  few : n < 1152921504606846976
  old : blk < w0.heap.size
  less : ∀ {W : World} {d : Array α}, Rw enc k n w0 blk d W → ∀ i j : Nat, i < n → j < n →
    Calls Tryd.prog g (#[.int .i64 i, .int .i64 j] ++ lb) W fun e w' => e = .returned (.bool (lt d[i]! d[j]!)) ∧ Rw enc k n w0 blk d w' ∧ KB w0 W w'
  swap : ∀ {W : World} {d : Array α}, Rw enc k n w0 blk d W → ∀ i j : Nat, i < n → j < n →
    ∃ W', (callFunc sf (#[.int .i64 i, .int .i64 j] ++ sb)).run Tryd.prog W = .ok (.value (.tuple #[])) W' ∧ Rw enc k n w0 blk (swp d i j) W' ∧ KB w0 W W'
  eg : ∀ (args : Array Value) (w : World), (callFunc g args).run Tryd.prog w = .ok (.enter g args) w
  older : SwapSwapsK Tryd.prog sf sb enc k blk 0 n
  len : ∀ x, (enc x).length = k

variable {enc : α → List Value} {k n : Nat} {w0 W : World} {blk : Nat} {d : Array α}
theorem Rw.le (h : Rw enc k n w0 blk d W) : w0.heap.size ≤ W.heap.size := h.grown.size
theorem Rw.lt (h : Rw enc k n w0 blk d W) : blk < W.heap.size := Nat.lt_of_lt_of_le h.old h.le
theorem holdsK_same {W W' : World} (h : HoldsK enc k W blk 0 d) (hb : W'.heap[blk]? = W.heap[blk]?) : HoldsK enc k W' blk 0 d := by
  intro j hj
  obtain ⟨h1, h2⟩ := h j hj
  have e1 : W'.cell? ⟨blk, 0 + j, none⟩ = W.cell? ⟨blk, 0 + j, none⟩ := by simp only [World.cell?, hb]
  have e2 : W'.frozen? ⟨blk, 0 + j, none⟩ = W.frozen? ⟨blk, 0 + j, none⟩ := by simp only [World.frozen?, hb]
  exact ⟨e1.trans h1, e2.trans h2⟩
theorem Rw.below {W' : World} (h : Rw enc k n w0 blk d W) (hb : RowKit.Below W.heap.size W W') : Rw enc k n w0 blk d W' :=
  ⟨holdsK_same h.hold (hb.block blk h.lt), h.size, ⟨hb.os.trans h.grown.os, hb.tape.trans h.grown.tape, hb.output.trans h.grown.output, Nat.le_trans h.grown.size hb.size,
    fun i hi hne => (hb.block i (Nat.lt_of_lt_of_le hi h.grown.size)).trans (h.grown.block i hi hne)⟩, h.old⟩
theorem Rw.alloc (h : Rw enc k n w0 blk d W) (o : Obj) : Rw enc k n w0 blk d (W.alloc o) := h.below ((RowKit.Below.refl _ _).alloc (Nat.le_refl _) o)
theorem Rw.setNew {c j : Nat} (h : Rw enc k n w0 blk d W) (hc : w0.heap.size ≤ c) (u : Value) : Rw enc k n w0 blk d (W.setCell ⟨c, j, none⟩ u) :=
  ⟨holdsK_same h.hold (RowKit.Below.heap_setCell W ⟨c, j, none⟩ u blk (by have := h.old; show blk ≠ c; omega)), h.size,
    ⟨h.grown.os, h.grown.tape, h.grown.output, by simpa using h.grown.size, fun i hi hne => (RowKit.Below.heap_setCell W ⟨c, j, none⟩ u i (by show i ≠ c; omega)).trans (h.grown.block i hi hne)⟩, h.old⟩

/-- A block of the sort's own: its cells. -/
def Bx (w0 W : World) (b : Nat) (cs : Array Value) (t : TypeId) : Prop := w0.heap.size ≤ b ∧ Blk W b cs t
theorem Bx.new {w0 W : World} (h : w0.heap.size ≤ W.heap.size) (cs : Array Value) (t : TypeId) : Bx w0 (W.alloc (.cells cs t)) W.heap.size cs t := ⟨h, Blk.new _ _ _⟩
theorem Bx.kb {w0 W W' : World} {b : Nat} {cs : Array Value} {t : TypeId} (h : Bx w0 W b cs t) (hk : KB w0 W W') : Bx w0 W' b cs t := ⟨h.1, (hk.block b h.1 h.2.lt).trans h.2⟩
theorem Bx.cell {w0 W : World} {b : Nat} {cs : Array Value} {t : TypeId} (h : Bx w0 W b cs t) (j : Nat) : W.cell? ⟨b, j, none⟩ = cs[j]? := h.2.cell j
abbrev twoA (g : Nat) (lb : Array Value) (sf : Nat) (sb : Array Value) : Array Value := #[.func (.func g) #[] lb, .func (.func sf) #[] sb]
end
end
section
/- sort.insertionSort_func, where the one that compares may make memory. -/
open Go.Shelf Go.RowKit Go.Lib Go.Sort

variable {α : Type} [Inhabited α] {enc : α → List Value} {k n : Nat} {w0 : World} {blk g sf : Nat} {lb sb : Array Value} {lt : α → α → Bool}

set_option maxHeartbeats 4000000 in
set_option maxRecDepth 100000 in
theorem ins_any (S : SortBy g lb sf sb enc k n lt blk w0) {W : World} {d : Array α} (hW : Rw enc k n w0 blk d W) (a b : Nat) (hab : a ≤ b) (hb : b ≤ n) :
    Calls Tryd.prog 76 #[.agg (twoA g lb sf sb), .int .i64 a, .int .i64 b] W fun e w' => e = .returned (.tuple #[]) ∧ Rw enc k n w0 blk (Sort.insertionSort lt d a b) w' ∧ KB w0 W w' := by
  have eg := S.eg
  have hfew := S.few
  obtain ⟨W1, hW1⟩ : ∃ W1, W1 = W.alloc (.cells (twoA g lb sf sb) 141) := ⟨_, rfl⟩
  obtain ⟨B, hB⟩ : ∃ B, B = W.heap.size := ⟨_, rfl⟩
  have R1 := Lib.hid (show Rw enc k n w0 blk d W1 by rw [hW1]; exact hW.alloc _)
  have X1 := Lib.hid (show Bx w0 W1 B (twoA g lb sf sb) 141 by rw [hW1, hB]; exact Bx.new hW.le _ _)
  have K1 := Lib.hid (show KB w0 W W1 by rw [hW1]; exact (KB.refl _ _).alloc _)
  go_enter Tryd.func76, Tryd.ntmps76
  go_upto_region 1 with fail
  rw [← hW1, ← hB]
  clear hW1 hB hW
  go_wp2
  go_loopw [6] (fun vi wr => ∃ (i : Nat) (dk : Array α), vi = .int .i64 i ∧ a < i ∧ i ≤ b + 1 ∧ Rw enc k n w0 blk dk wr ∧ KB w0 W1 wr ∧ insOuter lt a b i dk = insOuter lt a b (a + 1) d) (fun vi _ => b + 1 - (intOf vi).toNat)
  case atStart => exact ⟨a + 1, d, by go_num, by omega, by omega, R1.out, KB.refl _ _, rfl⟩
  case round =>
    obtain ⟨i, dk, rfl, hai, hib, hR, hK, hO⟩ := hrel
    have HO := Lib.hid hO
    have HR := Lib.hid hR
    have HK := Lib.hid hK
    clear hO hR hK
    by_cases hlt : i < b
    · go_upto_region 5 with fail
      go_loopw [7] (fun vj wr2 => ∃ (j : Nat) (dj : Array α), vj = .int .i64 j ∧ a ≤ j ∧ j ≤ i ∧ Rw enc k n w0 blk dj wr2 ∧ KB w0 wr wr2 ∧ insInner lt a j dj = insInner lt a i dk) (fun vj _ => (intOf vj).toNat)
      case atStart => exact ⟨i, dk, rfl, by omega, Nat.le_refl _, HR.out, KB.refl _ _, rfl⟩
      case round =>
        obtain ⟨j, dj, rfl, haj, hji, hRj, hKj, hI⟩ := hrel
        have HI := Lib.hid hI
        have HRj := Lib.hid hRj
        have HKj := Lib.hid hKj
        have HX := Lib.hid (X1.out.kb (HK.out.trans hKj))
        have c0 := HX.out.cell 0
        have c1 := HX.out.cell 1
        simp only [List.getElem?_toArray, List.getElem?_cons_zero, List.getElem?_cons_succ] at c0 c1
        clear hI hRj hKj
        by_cases hja : a < j
        · have hl := S.less HRj.out j (j - 1) (by omega) (by omega)
          rw [show (((j - 1 : Nat) : Int)) = (j : Int) - 1 by omega] at hl
          cases hlv : lt dj[j]! dj[j - 1]! with
          | true =>
            rw [hlv] at hl
            go_upto_region 7 with (go_at_fn g; refine hl.mono ?_; rintro e w3 ⟨rfl, hR3, hK3⟩)
            have HR3 := Lib.hid hR3
            have HK3 := Lib.hid hK3
            have c1' := (HX.out.kb hK3).cell 1
            simp only [List.getElem?_toArray, List.getElem?_cons_zero, List.getElem?_cons_succ] at c1'
            obtain ⟨w4, hs, hR4, hK4⟩ := S.swap hR3 j (j - 1) (by omega) (by omega)
            rw [show (((j - 1 : Nat) : Int)) = (j : Int) - 1 by omega] at hs
            have HR4 := Lib.hid hR4
            have HK4 := Lib.hid hK4
            clear hR3 hK3 hR4 hK4 hl c0 c1
            go_wp2
            go_roundw
            case rel =>
              exact ⟨j - 1, swp dj j (j - 1), by congr 1 <;> omega, by omega, by omega, HR4.out, (HKj.out.trans HK3.out).trans HK4.out, by rw [← HI.out, insInner_go lt a j dj hja hlv]⟩
            case measure => simp [intOf]; omega
          | false =>
            rw [hlv] at hl
            go_wp2_with (go_at_fn g; refine hl.mono ?_; rintro e w3 ⟨rfl, hR3, hK3⟩)
            go_roundw
            case rel =>
              exact ⟨i + 1, dj, by go_num, by omega, by omega, hR3, (HK.out.trans HKj.out).trans hK3, by rw [← HO.out, insOuter_go _ _ _ _ _ hlt, ← HI.out, insInner_stop _ _ _ _ (Or.inr hlv)]⟩
            case measure => simp [intOf]; omega
        · go_wp2
          go_roundw
          case rel =>
            exact ⟨i + 1, dj, by go_num, by omega, by omega, HRj.out, HK.out.trans HKj.out, by rw [← HO.out, insOuter_go _ _ _ _ _ hlt, ← HI.out, insInner_stop _ _ _ _ (Or.inl (by omega))]⟩
          case measure => simp [intOf]; omega
    · go_wp2
      go_end0
      refine ⟨rfl, ?_, K1.out.trans HK.out⟩
      unfold Sort.insertionSort
      rw [← HO.out, insOuter_stop _ _ _ _ _ hlt]
      exact HR.out
end
section
/- sort.order2_func, median_func, medianAdjacent_func, where the one that compares may make memory. -/
open Go.Shelf Go.RowKit Go.Lib Go.Sort

/-- What was made since a world is as it was, but for one block. -/
structure KX (w0 : World) (c : Nat) (W W' : World) : Prop where
  size : W.heap.size ≤ W'.heap.size
  block : ∀ i, w0.heap.size ≤ i → i < W.heap.size → i ≠ c → W'.heap[i]? = W.heap[i]?
theorem KX.ofKB {w0 W W' : World} {c : Nat} (h : KB w0 W W') : KX w0 c W W' := ⟨h.size, fun i h1 h2 _ => h.block i h1 h2⟩
theorem KX.trans {w0 W1 W2 W3 : World} {c : Nat} (h : KX w0 c W1 W2) (h2 : KX w0 c W2 W3) : KX w0 c W1 W3 :=
  ⟨Nat.le_trans h.size h2.size, fun i hi hk hc => (h2.block i hi (Nat.lt_of_lt_of_le hk h.size) hc).trans (h.block i hi hk hc)⟩
theorem KX.set {w0 W : World} {c j : Nat} (u : Value) : KX w0 c W (W.setCell ⟨c, j, none⟩ u) :=
  ⟨by simp, fun i _ _ hc => Below.heap_setCell W ⟨c, j, none⟩ u i hc⟩
theorem Bx.kx {w0 W W' : World} {b c : Nat} {cs : Array Value} {t : TypeId} (h : Bx w0 W b cs t) (hk : KX w0 c W W') (hc : b ≠ c) : Bx w0 W' b cs t := ⟨h.1, (hk.block b h.1 h.2.lt hc).trans h.2⟩
theorem Bx.set {w0 W : World} {b j : Nat} {cs : Array Value} {t : TypeId} (h : Bx w0 W b cs t) (u : Value) : Bx w0 (W.setCell ⟨b, j, none⟩ u) b (cs.setIfInBounds j u) t := ⟨h.1, h.2.set j u⟩
/-- A new block, but for which all is as it was. -/
theorem KX.toKB {w0 W W1 W' : World} {c : Nat} (h : KB w0 W W1) (hc : W.heap.size ≤ c) (h2 : KX w0 c W1 W') : KB w0 W W' :=
  ⟨Nat.le_trans h.size h2.size, fun i h1 h3 => (h2.block i h1 (Nat.lt_of_lt_of_le h3 h.size) (by omega)).trans (h.block i h1 h3)⟩

variable {α : Type} [Inhabited α] {enc : α → List Value} {k n : Nat} {w0 : World} {blk g sf : Nat} {lb sb : Array Value} {lt : α → α → Bool}
theorem Rw.set {W : World} {d : Array α} {c j : Nat} (h : Rw enc k n w0 blk d W) (hc : w0.heap.size ≤ c) (u : Value) : Rw enc k n w0 blk d (W.setCell ⟨c, j, none⟩ u) := h.setNew hc u

set_option maxHeartbeats 4000000 in
set_option maxRecDepth 100000 in
theorem order2_any (S : SortBy g lb sf sb enc k n lt blk w0) {W : World} {d : Array α} (hW : Rw enc k n w0 blk d W) (a b s c : Nat) (ha : a < n) (hb : b < n) (hc : Bx w0 W c #[.int .i64 (s : Nat)] 3) (hs : s < 1000) :
    Calls Tryd.prog 90 #[.agg (twoA g lb sf sb), .int .i64 a, .int .i64 b, .pointer (some ⟨c, 0, none⟩)] W fun e w' =>
      e = .returned (.tuple #[.int .i64 ((order2 lt d a b s).1 : Nat), .int .i64 ((order2 lt d a b s).2.1 : Nat)]) ∧ Rw enc k n w0 blk d w' ∧ Bx w0 w' c #[.int .i64 ((order2 lt d a b s).2.2 : Nat)] 3 ∧ KX w0 c W w' := by
  have eg := S.eg
  obtain ⟨W1, hW1⟩ : ∃ W1, W1 = W.alloc (.cells (twoA g lb sf sb) 141) := ⟨_, rfl⟩
  obtain ⟨B, hB⟩ : ∃ B, B = W.heap.size := ⟨_, rfl⟩
  have R1 := Lib.hid (show Rw enc k n w0 blk d W1 by rw [hW1]; exact hW.alloc _)
  have X1 := Lib.hid (show Bx w0 W1 B (twoA g lb sf sb) 141 by rw [hW1, hB]; exact Bx.new hW.le _ _)
  have K1 := Lib.hid (show KB w0 W W1 by rw [hW1]; exact (KB.refl _ _).alloc _)
  have C1 := Lib.hid (hc.kb K1.out)
  have hl := S.less R1.out b a hb ha
  have c0 := X1.out.cell 0
  simp only [List.getElem?_toArray, List.getElem?_cons_zero, List.getElem?_cons_succ] at c0
  have RES := Lib.hid (show order2 lt d a b s = if lt d[b]! d[a]! then (b, a, s + 1) else (a, b, s) from rfl)
  go_enter Tryd.func90, Tryd.ntmps90
  go_upto_region 1 with fail
  rw [← hW1, ← hB]
  clear hW1 hB hW hc
  cases hlv : lt d[b]! d[a]! with
  | true =>
    have R2 := Lib.hid (show order2 lt d a b s = (b, a, s + 1) by rw [RES.out, hlv]; rfl)
    rw [hlv] at hl
    go_upto_region 2 with (go_at_fn g; refine hl.mono ?_; rintro e w3 ⟨rfl, hR3, hK3⟩)
    have HR3 := Lib.hid hR3
    have HK3 := Lib.hid hK3
    have C3 := Lib.hid (C1.out.kb hK3)
    have cc := C3.out.cell 0
    have cf := C3.out.2.free 0
    simp only [List.getElem?_toArray, List.getElem?_cons_zero, List.getElem?_cons_succ] at cc
    clear hl c0 hR3 hK3
    go_wp2
    go_ret2
    refine ⟨by rw [R2.out]; rfl, HR3.out.set C3.out.1 _, ?_, ((KX.ofKB (K1.out.trans HK3.out)).trans (KX.set _))⟩
    rw [R2.out]
    have q := C3.out.set (j := 0) (.int .i64 ((s : Int) + 1))
    simpa using q
  | false =>
    have R2 := Lib.hid (show order2 lt d a b s = (a, b, s) by rw [RES.out, hlv]; rfl)
    rw [hlv] at hl
    go_wp2_with (go_at_fn g; refine hl.mono ?_; rintro e w3 ⟨rfl, hR3, hK3⟩)
    go_ret2
    refine ⟨by rw [R2.out]; rfl, hR3, ?_, KX.ofKB (K1.out.trans hK3)⟩
    rw [R2.out]
    exact C1.out.kb hK3

set_option maxHeartbeats 4000000 in
set_option maxRecDepth 100000 in
theorem median_any (S : SortBy g lb sf sb enc k n lt blk w0) {W : World} {d : Array α} (hW : Rw enc k n w0 blk d W) (a b c s p : Nat) (ha : a < n) (hb : b < n) (hc : c < n) (hp : Bx w0 W p #[.int .i64 (s : Nat)] 3) (hs : s < 900) :
    Calls Tryd.prog 89 #[.agg (twoA g lb sf sb), .int .i64 a, .int .i64 b, .int .i64 c, .pointer (some ⟨p, 0, none⟩)] W fun e w' =>
      e = .returned (.int .i64 ((median lt d a b c s).1 : Nat)) ∧ Rw enc k n w0 blk d w' ∧ Bx w0 w' p #[.int .i64 ((median lt d a b c s).2 : Nat)] 3 ∧ KX w0 p W w' := by
  obtain ⟨W1, hW1⟩ : ∃ W1, W1 = W.alloc (.cells (twoA g lb sf sb) 141) := ⟨_, rfl⟩
  obtain ⟨B, hB⟩ : ∃ B, B = W.heap.size := ⟨_, rfl⟩
  have R1 := Lib.hid (show Rw enc k n w0 blk d W1 by rw [hW1]; exact hW.alloc _)
  have X1 := Lib.hid (show Bx w0 W1 B (twoA g lb sf sb) 141 by rw [hW1, hB]; exact Bx.new hW.le _ _)
  have K1 := Lib.hid (show KB w0 W W1 by rw [hW1]; exact (KB.refl _ _).alloc _)
  have C1 := Lib.hid (hp.kb K1.out)
  have NE := Lib.hid (show B ≠ p by have := hp.2.lt; omega)
  obtain ⟨r1, hr1⟩ : ∃ r1, r1 = order2 lt d a b s := ⟨_, rfl⟩
  obtain ⟨r2, hr2⟩ : ∃ r2, r2 = order2 lt d r1.2.1 c r1.2.2 := ⟨_, rfl⟩
  obtain ⟨r3, hr3⟩ : ∃ r3, r3 = order2 lt d r1.1 r2.1 r2.2.2 := ⟨_, rfl⟩
  have RES := Lib.hid (show median lt d a b c s = (r3.2.1, r3.2.2) by rw [hr3, hr2, hr1]; rfl)
  have L1 : r1.1 < n ∧ r1.2.1 < n := by rw [hr1]; exact order2_lt' lt d s ha hb
  have S1 : r1.2.2 ≤ s + 1 := by rw [hr1]; exact order2_swaps' lt d a b s
  have L2 : r2.1 < n ∧ r2.2.1 < n := by rw [hr2]; exact order2_lt' lt d _ L1.2 hc
  have S2 : r2.2.2 ≤ r1.2.2 + 1 := by rw [hr2]; exact order2_swaps' lt d _ _ _
  have c1 := order2_any S R1.out a b s p ha hb C1.out (by omega)
  rw [← hr1] at c1
  have H1 := Lib.hid (L1)
  have H2 := Lib.hid (L2)
  have HS := Lib.hid (show r1.2.2 < 1000 ∧ r2.2.2 < 1000 by omega)
  have Q2 := Lib.hid hr2
  have Q3 := Lib.hid hr3
  have HC := Lib.hid hc
  obtain ⟨a1, b1, s1⟩ := r1
  obtain ⟨a2, b2, s2⟩ := r2
  obtain ⟨a3, b3, s3⟩ := r3
  simp only at c1 Q2 Q3 HS H1 H2
  go_enter Tryd.func89, Tryd.ntmps89
  go_upto_region 1 with fail
  rw [← hW1, ← hB]
  clear hW1 hB hW hp hr1 hr2 hr3 L1 L2 S1 S2 hc
  have f0 := X1.out.cell 0
  have f1 := X1.out.cell 1
  simp only [List.getElem?_toArray, List.getElem?_cons_zero, List.getElem?_cons_succ] at f0 f1
  go_upto_region 2 with (go_at_call 90; refine c1.mono ?_; rintro e w2 ⟨rfl, hR2, hC2, hK2⟩)
  have X2 := Lib.hid (X1.out.kx hK2 NE.out)
  have c2 := order2_any S hR2 b1 c s1 p H1.out.2 HC.out hC2 HS.out.1
  rw [← Q2.out] at c2
  have KK2 := Lib.hid hK2
  clear f0 f1 hR2 hC2 hK2 c1
  have f0 := X2.out.cell 0
  have f1 := X2.out.cell 1
  simp only [List.getElem?_toArray, List.getElem?_cons_zero, List.getElem?_cons_succ] at f0 f1
  go_upto_region 3 with (go_at_call 90; refine c2.mono ?_; rintro e w3 ⟨rfl, hR2, hC2, hK2⟩)
  have X3 := Lib.hid (X2.out.kx hK2 NE.out)
  have c3 := order2_any S hR2 a1 a2 s2 p H1.out.1 H2.out.1 hC2 HS.out.2
  rw [← Q3.out] at c3
  have KK3 := Lib.hid hK2
  clear f0 f1 hR2 hC2 hK2 c2
  have f0 := X3.out.cell 0
  have f1 := X3.out.cell 1
  simp only [List.getElem?_toArray, List.getElem?_cons_zero, List.getElem?_cons_succ] at f0 f1
  go_upto_region 4 with (go_at_call 90; refine c3.mono ?_; rintro e w4 ⟨rfl, hR2, hC2, hK2⟩)
  go_wp2
  go_ret
  refine ⟨by rw [RES.out]; rfl, hR2, by rw [RES.out]; exact hC2, (((KX.ofKB K1.out).trans KK2.out).trans KK3.out).trans hK2⟩

set_option maxHeartbeats 4000000 in
set_option maxRecDepth 100000 in
theorem medAdj_any (S : SortBy g lb sf sb enc k n lt blk w0) {W : World} {d : Array α} (hW : Rw enc k n w0 blk d W) (a s p : Nat) (ha : 1 ≤ a) (ha2 : a + 1 < n) (hp : Bx w0 W p #[.int .i64 (s : Nat)] 3) (hs : s < 900) :
    Calls Tryd.prog 88 #[.agg (twoA g lb sf sb), .int .i64 a, .pointer (some ⟨p, 0, none⟩)] W fun e w' =>
      e = .returned (.int .i64 ((medianAdjacent lt d a s).1 : Nat)) ∧ Rw enc k n w0 blk d w' ∧ Bx w0 w' p #[.int .i64 ((medianAdjacent lt d a s).2 : Nat)] 3 ∧ KX w0 p W w' := by
  obtain ⟨W1, hW1⟩ : ∃ W1, W1 = W.alloc (.cells (twoA g lb sf sb) 141) := ⟨_, rfl⟩
  obtain ⟨B, hB⟩ : ∃ B, B = W.heap.size := ⟨_, rfl⟩
  have R1 := Lib.hid (show Rw enc k n w0 blk d W1 by rw [hW1]; exact hW.alloc _)
  have X1 := Lib.hid (show Bx w0 W1 B (twoA g lb sf sb) 141 by rw [hW1, hB]; exact Bx.new hW.le _ _)
  have K1 := Lib.hid (show KB w0 W W1 by rw [hW1]; exact (KB.refl _ _).alloc _)
  have C1 := Lib.hid (hp.kb K1.out)
  have hf := S.few
  have c1 := median_any S R1.out (a - 1) a (a + 1) s p (by omega) (by omega) (by omega) C1.out hs
  rw [show (((a - 1 : Nat) : Int)) = (a : Int) - 1 by omega, show (((a + 1 : Nat) : Int)) = (a : Int) + 1 by omega] at c1
  go_enter Tryd.func88, Tryd.ntmps88
  go_upto_region 1 with fail
  rw [← hW1, ← hB]
  clear hW1 hB hW hp
  have f0 := X1.out.cell 0
  have f1 := X1.out.cell 1
  simp only [List.getElem?_toArray, List.getElem?_cons_zero, List.getElem?_cons_succ] at f0 f1
  go_wp2_with (go_at_call 89; refine c1.mono ?_; rintro e w2 ⟨rfl, hR2, hC2, hK2⟩)
  go_ret
  exact ⟨rfl, hR2, hC2, (KX.ofKB K1.out).trans hK2⟩
end
section
/- sort.choosePivot_func, where the one that compares may make memory. -/
open Go.Shelf Go.RowKit Go.Lib Go.Sort

variable {α : Type} [Inhabited α] {enc : α → List Value} {k n : Nat} {w0 : World} {blk g sf : Nat} {lb sb : Array Value} {lt : α → α → Bool}

theorem hint_code (s : Nat) : hintCode (hintOf s) = if s = 0 then 1 else if s = 12 then 2 else 0 := by
  unfold hintOf
  split
  · rfl
  · split <;> rfl
theorem ret_pairI {a b a' b' : Int} (h1 : a = a') (h2 : b = b') : Ending.returned (.tuple #[.int .i64 a, .int .i64 b]) = .returned (.tuple #[.int .i64 a', .int .i64 b']) := by rw [h1, h2]

set_option maxHeartbeats 8000000 in
set_option maxRecDepth 100000 in
theorem pivot_any (S : SortBy g lb sf sb enc k n lt blk w0) {W : World} {d : Array α} (hW : Rw enc k n w0 blk d W) (a b : Nat) (hL : 12 < b - a) (hb : b ≤ n) :
    Calls Tryd.prog 79 #[.agg (twoA g lb sf sb), .int .i64 a, .int .i64 b] W fun e w' =>
      e = .returned (.tuple #[.int .i64 ((choosePivot lt d a b).1 : Nat), .int .i64 (hintCode (choosePivot lt d a b).2)]) ∧ Rw enc k n w0 blk d w' ∧ KB w0 W w' := by
  obtain ⟨W1, hW1⟩ : ∃ W1, W1 = W.alloc (.cells (twoA g lb sf sb) 141) := ⟨_, rfl⟩
  obtain ⟨B, hB⟩ : ∃ B, B = W.heap.size := ⟨_, rfl⟩
  obtain ⟨W2, hW2⟩ : ∃ W2, W2 = W1.alloc (.cells #[.int .i64 0] 3) := ⟨_, rfl⟩
  have hB1 : W1.heap.size = B + 1 := by rw [hW1, hB]; simp
  have R1 := Lib.hid (show Rw enc k n w0 blk d W1 by rw [hW1]; exact hW.alloc _)
  have R2 := Lib.hid (show Rw enc k n w0 blk d W2 by rw [hW2]; exact R1.out.alloc _)
  have X1 := Lib.hid (show Bx w0 W1 B (twoA g lb sf sb) 141 by rw [hW1, hB]; exact Bx.new hW.le _ _)
  have K1 := Lib.hid (show KB w0 W W1 by rw [hW1]; exact (KB.refl _ _).alloc _)
  have K2 := Lib.hid (show KB w0 W1 W2 by rw [hW2]; exact (KB.refl _ _).alloc _)
  have C2 := Lib.hid (show Bx w0 W2 (B + 1) #[.int .i64 ((0 : Nat) : Int)] 3 by rw [hW2, ← hB1]; exact Bx.new R1.out.le _ _)
  have X2 := Lib.hid (X1.out.kb K2.out)
  have HW1 := Lib.hid hW1
  have HW2 := Lib.hid hW2
  have HB := Lib.hid hB
  have HB1 := Lib.hid hB1
  clear hW hW1 hW2 hB hB1
  have HBW := Lib.hid (show W.heap.size ≤ B + 1 by have := HB.out; omega)
  have hf := S.few
  obtain ⟨L, hLL⟩ : ∃ L, L = b - a := ⟨_, rfl⟩
  obtain ⟨q, hq⟩ : ∃ q, q = L / 4 := ⟨_, rfl⟩
  obtain ⟨i1, hi1⟩ : ∃ i, i = a + q * 1 := ⟨_, rfl⟩
  obtain ⟨i2, hi2⟩ : ∃ i, i = a + q * 2 := ⟨_, rfl⟩
  obtain ⟨i3, hi3⟩ : ∃ i, i = a + q * 3 := ⟨_, rfl⟩
  have lsub : (b : Int) - (a : Int) = (L : Int) := by omega
  have qi : (L : Int) / 4 = (q : Int) := by omega
  have hq2 : 3 ≤ q ∧ 4 * q ≤ L := by omega
  have hLi : (12 : Int) < L := by omega
  have e1 : (a : Int) + (q : Int) = (i1 : Int) := by omega
  have e2 : (a : Int) + (q : Int) * 2 = (i2 : Int) := by omega
  have e3 : (a : Int) + (q : Int) * 3 = (i3 : Int) := by omega
  have NE := Lib.hid (show B ≠ B + 1 by omega)
  have b1 : 1 ≤ i1 ∧ i1 + 1 < n ∧ 1 ≤ i2 ∧ i2 + 1 < n ∧ 1 ≤ i3 ∧ i3 + 1 < n := by omega
  have BD := Lib.hid b1
  have RES := Lib.hid (show choosePivot lt d a b = ((rawPivot lt d a b).1, hintOf (rawPivot lt d a b).2) from choosePivot_eq lt d a b)
  have f0 := X2.out.cell 0
  have f1 := X2.out.cell 1
  simp only [List.getElem?_toArray, List.getElem?_cons_zero, List.getElem?_cons_succ] at f0 f1
  -- the end, whatever was found
  have fin : ∀ (p s : Nat), rawPivot lt d a b = (p, s) → ∀ w5, Bx w0 w5 (B + 1) #[.int .i64 (s : Nat)] 3 → True := fun _ _ _ _ _ => trivial
  clear fin
  by_cases h50 : 50 ≤ L
  · have h50i : (50 : Int) ≤ L := by omega
    have RP := Lib.hid (show rawPivot lt d a b = median lt d (medianAdjacent lt d i1 0).1 (medianAdjacent lt d i2 (medianAdjacent lt d i1 0).2).1 (medianAdjacent lt d i3 (medianAdjacent lt d i2 (medianAdjacent lt d i1 0).2).2).1 (medianAdjacent lt d i3 (medianAdjacent lt d i2 (medianAdjacent lt d i1 0).2).2).2 by
      unfold rawPivot
      simp only [← hLL, ← hq, ← hi1, ← hi2, ← hi3]
      rw [if_pos (by omega), if_pos (by omega)])
    clear hLL hq hi1 hi2 hi3 hq2 b1
    have m1 := medAdj_any S R2.out i1 0 (B + 1) BD.out.1 BD.out.2.1 C2.out (by omega)
    obtain ⟨⟨p1, s1⟩, hp1⟩ : ∃ r, r = medianAdjacent lt d i1 0 := ⟨_, rfl⟩
    have P1 := Lib.hid (show p1 < n ∧ s1 ≤ 3 by
      have a1 := median_mem lt d (i1 - 1) i1 (i1 + 1) 0
      have a2 := median_count lt d (i1 - 1) i1 (i1 + 1) 0
      have : median lt d (i1 - 1) i1 (i1 + 1) 0 = (p1, s1) := hp1.symm
      rw [this] at a1 a2
      have := BD.out
      simp only at a1 a2
      omega)
    rw [← hp1] at m1 RP
    obtain ⟨⟨p2, s2⟩, hp2⟩ : ∃ r, r = medianAdjacent lt d i2 s1 := ⟨_, rfl⟩
    have P2 := Lib.hid (show p2 < n ∧ s2 ≤ 6 by
      have a1 := median_mem lt d (i2 - 1) i2 (i2 + 1) s1
      have a2 := median_count lt d (i2 - 1) i2 (i2 + 1) s1
      have : median lt d (i2 - 1) i2 (i2 + 1) s1 = (p2, s2) := hp2.symm
      rw [this] at a1 a2
      have := BD.out
      have := P1.out.2
      simp only at a1 a2
      omega)
    simp only at RP
    rw [← hp2] at RP
    obtain ⟨⟨p3, s3⟩, hp3⟩ : ∃ r, r = medianAdjacent lt d i3 s2 := ⟨_, rfl⟩
    have P3 := Lib.hid (show p3 < n ∧ s3 ≤ 9 by
      have a1 := median_mem lt d (i3 - 1) i3 (i3 + 1) s2
      have a2 := median_count lt d (i3 - 1) i3 (i3 + 1) s2
      have : median lt d (i3 - 1) i3 (i3 + 1) s2 = (p3, s3) := hp3.symm
      rw [this] at a1 a2
      have := BD.out
      have := P2.out.2
      simp only at a1 a2
      omega)
    simp only at RP
    rw [← hp3] at RP
    simp only at RP
    obtain ⟨⟨p, s⟩, hps⟩ : ∃ r, r = median lt d p1 p2 p3 s3 := ⟨_, rfl⟩
    rw [← hps] at RP
    have R9 := Lib.hid (show choosePivot lt d a b = (p, hintOf s) by rw [RES.out, RP.out])
    have Q1 := Lib.hid hp1
    have Q2 := Lib.hid hp2
    have Q3 := Lib.hid hp3
    have Q4 := Lib.hid hps
    have HC := Lib.hid (hint_code s)
    clear hp1 hp2 hp3 hps RES RP
    go_enter Tryd.func79, Tryd.ntmps79
    go_upto_region 1 with fail
    rw [← HW1.out, ← HB.out]
    go_upto_region 3 with fail
    rw [← HW2.out, HB1.out]
    go_upto_region 9 with (go_at_call 88; refine m1.mono ?_; rintro e w3 ⟨rfl, hR, hC, hK⟩)
    have X3 := Lib.hid (X2.out.kx hK NE.out)
    have KK3 := Lib.hid hK
    have m2 := medAdj_any S hR i2 s1 (B + 1) BD.out.2.2.1 BD.out.2.2.2.1 hC (by have := P1.out.2; omega)
    rw [← Q2.out] at m2
    clear f0 f1 hR hC hK m1
    have f0 := X3.out.cell 0
    have f1 := X3.out.cell 1
    simp only [List.getElem?_toArray, List.getElem?_cons_zero, List.getElem?_cons_succ] at f0 f1
    go_upto_region 10 with (go_at_call 88; refine m2.mono ?_; rintro e w4 ⟨rfl, hR, hC, hK⟩)
    have X4 := Lib.hid (X3.out.kx hK NE.out)
    have KK4 := Lib.hid hK
    have m3 := medAdj_any S hR i3 s2 (B + 1) BD.out.2.2.2.2.1 BD.out.2.2.2.2.2 hC (by have := P2.out.2; omega)
    rw [← Q3.out] at m3
    clear f0 f1 hR hC hK m2
    have f0 := X4.out.cell 0
    have f1 := X4.out.cell 1
    simp only [List.getElem?_toArray, List.getElem?_cons_zero, List.getElem?_cons_succ] at f0 f1
    go_upto_region 11 with (go_at_call 88; refine m3.mono ?_; rintro e w5 ⟨rfl, hR, hC, hK⟩)
    have X5 := Lib.hid (X4.out.kx hK NE.out)
    have KK5 := Lib.hid hK
    have m4 := median_any S hR p1 p2 p3 s3 (B + 1) P1.out.1 P2.out.1 P3.out.1 hC (by have := P3.out.2; omega)
    rw [← Q4.out] at m4
    clear f0 f1 hR hC hK m3
    have f0 := X5.out.cell 0
    have f1 := X5.out.cell 1
    simp only [List.getElem?_toArray, List.getElem?_cons_zero, List.getElem?_cons_succ] at f0 f1
    go_upto_region 12 with (go_at_call 89; refine m4.mono ?_; rintro e w6 ⟨rfl, hR, hC, hK⟩)
    have HR := Lib.hid hR
    have KK6 := Lib.hid (KX.toKB (K1.out.trans K2.out) HBW.out (((KK3.out.trans KK4.out).trans KK5.out).trans hK))
    have cc := hC.cell 0
    simp only [List.getElem?_toArray, List.getElem?_cons_zero] at cc
    clear f0 f1 hR hC hK m4
    by_cases s0 : s = 0
    · have z : (s : Int) = 0 := by omega
      have zb : ((s : Int) == 0) = true := by simp [s0]
      go_wp2
      go_ret2
      exact ⟨ret_pairI (by rw [R9.out]) (by rw [R9.out, HC.out, if_pos s0]), HR.out, KK6.out⟩
    · by_cases s12 : s = 12
      · have zb : ((s : Int) == 0) = false := by simp; omega
        have zc : ((s : Int) == 12) = true := by simp; omega
        go_wp2
        go_ret2
        exact ⟨ret_pairI (by rw [R9.out]) (by rw [R9.out, HC.out, if_neg s0, if_pos s12]), HR.out, KK6.out⟩
      · have zb : ((s : Int) == 0) = false := by simp; omega
        have zc : ((s : Int) == 12) = false := by simp; omega
        go_wp2
        go_ret2
        exact ⟨ret_pairI (by rw [R9.out]) (by rw [R9.out, HC.out, if_neg s0, if_neg s12]), HR.out, KK6.out⟩
  · have h50i : (L : Int) < 50 := by omega
    have m1 := median_any S R2.out i1 i2 i3 0 (B + 1) (by omega) (by omega) (by omega) C2.out (by omega)
    have RP := Lib.hid (show rawPivot lt d a b = median lt d i1 i2 i3 0 by
      unfold rawPivot
      simp only [← hLL, ← hq, ← hi1, ← hi2, ← hi3]
      rw [if_pos (by omega), if_neg (by omega)])
    clear hLL hq hi1 hi2 hi3 hq2 b1
    obtain ⟨⟨p, s⟩, hps⟩ : ∃ r, r = median lt d i1 i2 i3 0 := ⟨_, rfl⟩
    rw [← hps] at m1
    have R9 := Lib.hid (show choosePivot lt d a b = (p, hintOf s) by rw [RES.out, RP.out, ← hps])
    have HC := Lib.hid (hint_code s)
    clear hps RES RP
    go_enter Tryd.func79, Tryd.ntmps79
    go_upto_region 1 with fail
    rw [← HW1.out, ← HB.out]
    go_upto_region 3 with fail
    rw [← HW2.out, HB1.out]
    go_upto_region 12 with (go_at_call 89; refine m1.mono ?_; rintro e w3 ⟨rfl, hR, hC, hK⟩)
    have HR := Lib.hid hR
    have KK6 := Lib.hid (KX.toKB (K1.out.trans K2.out) HBW.out hK)
    have cc := hC.cell 0
    simp only [List.getElem?_toArray, List.getElem?_cons_zero] at cc
    clear f0 f1 hR hC hK m1
    by_cases s0 : s = 0
    · have zb : ((s : Int) == 0) = true := by simp [s0]
      go_wp2
      go_ret2
      exact ⟨ret_pairI (by rw [R9.out]) (by rw [R9.out, HC.out, if_pos s0]), HR.out, KK6.out⟩
    · by_cases s12 : s = 12
      · have zb : ((s : Int) == 0) = false := by simp; omega
        have zc : ((s : Int) == 12) = true := by simp; omega
        go_wp2
        go_ret2
        exact ⟨ret_pairI (by rw [R9.out]) (by rw [R9.out, HC.out, if_neg s0, if_pos s12]), HR.out, KK6.out⟩
      · have zb : ((s : Int) == 0) = false := by simp; omega
        have zc : ((s : Int) == 12) = false := by simp; omega
        go_wp2
        go_ret2
        exact ⟨ret_pairI (by rw [R9.out]) (by rw [R9.out, HC.out, if_neg s0, if_neg s12]), HR.out, KK6.out⟩
end
section
/- sort.partition_func and partitionEqual_func, where the one that compares may make memory. -/
open Go.Shelf Go.RowKit Go.Lib Go.Sort

variable {α : Type} [Inhabited α] {enc : α → List Value} {k n : Nat} {w0 : World} {blk g sf : Nat} {lb sb : Array Value} {lt : α → α → Bool}
theorem val_int {a b : Nat} (h : a = b) : Value.int .i64 (a : Int) = .int .i64 (b : Int) := by rw [h]
theorem ret_part {a a' : Int} {x y : Bool} (h1 : a = a') (h2 : x = y) : Ending.returned (.tuple #[.int .i64 a, .bool x]) = .returned (.tuple #[.int .i64 a', .bool y]) := by rw [h1, h2]
theorem partN_go (lt : α → α → Bool) (a i j : Nat) (dk : Array α) {i2 j2 : Nat} (hi2 : i2 = scanUp (fun x => lt x dk[a]!) dk j i) (hj2 : j2 = scanDown (fun x => !lt x dk[a]!) dk i2 j) (h : ¬ i2 > j2) : partLoop lt a i j dk = partLoop lt a (i2 + 1) (j2 - 1) (swp dk i2 j2) := by
  subst hi2; subst hj2
  rw [partLoop_eq, if_neg h]
theorem partN_break (lt : α → α → Bool) (a i j : Nat) (dk : Array α) {i2 j2 : Nat} (hi2 : i2 = scanUp (fun x => lt x dk[a]!) dk j i) (hj2 : j2 = scanDown (fun x => !lt x dk[a]!) dk i2 j) (h : i2 > j2) : partLoop lt a i j dk = (j2, dk) := by
  subst hi2; subst hj2
  rw [partLoop_eq, if_pos h]

set_option maxHeartbeats 8000000 in
set_option maxRecDepth 100000 in
theorem part_any (S : SortBy g lb sf sb enc k n lt blk w0) {W : World} {d : Array α} (hW : Rw enc k n w0 blk d W) (a b pivot : Nat) (hab : a + 1 < b) (hb : b ≤ n) (hp : a ≤ pivot ∧ pivot < b) :
    Calls Tryd.prog 83 #[.agg (twoA g lb sf sb), .int .i64 a, .int .i64 b, .int .i64 pivot] W fun e w' =>
      e = .returned (.tuple #[.int .i64 ((partition lt d a b pivot).1 : Nat), .bool (partition lt d a b pivot).2.1]) ∧ Rw enc k n w0 blk (partition lt d a b pivot).2.2 w' ∧ KB w0 W w' := by
  have eg := S.eg
  have hfew := S.few
  obtain ⟨W1, hW1⟩ : ∃ W1, W1 = W.alloc (.cells (twoA g lb sf sb) 141) := ⟨_, rfl⟩
  obtain ⟨B, hB⟩ : ∃ B, B = W.heap.size := ⟨_, rfl⟩
  have R1 := Lib.hid (show Rw enc k n w0 blk d W1 by rw [hW1]; exact hW.alloc _)
  have X1 := Lib.hid (show Bx w0 W1 B (twoA g lb sf sb) 141 by rw [hW1, hB]; exact Bx.new hW.le _ _)
  have K1 := Lib.hid (show KB w0 W W1 by rw [hW1]; exact (KB.refl _ _).alloc _)
  have HW1 := Lib.hid hW1
  have HB := Lib.hid hB
  clear hW1 hB hW
  obtain ⟨d1, hd1⟩ : ∃ d1, d1 = swp d a pivot := ⟨_, rfl⟩
  have HD1 := Lib.hid hd1
  obtain ⟨w2, hsw, hR2, hK2⟩ := S.swap R1.out a pivot (by omega) (by omega)
  rw [← hd1] at hR2
  clear hd1
  have HR0 := Lib.hid hR2
  have HK0 := Lib.hid hK2
  clear hR2 hK2
  obtain ⟨i0, hi0⟩ : ∃ i, i = a + 1 := ⟨_, rfl⟩
  obtain ⟨j0, hj0⟩ : ∃ j, j = b - 1 := ⟨_, rfl⟩
  have ei : (a : Int) + 1 = (i0 : Int) := by omega
  have ej : (b : Int) - 1 = (j0 : Int) := by omega
  have f1 := X1.out.cell 1
  simp only [List.getElem?_toArray, List.getElem?_cons_zero, List.getElem?_cons_succ] at f1
  go_enter Tryd.func83, Tryd.ntmps83
  go_upto_region 1 with fail
  rw [← HW1.out, ← HB.out]
  go_upto_region 2 with fail
  clear f1
  obtain ⟨i1, hi1⟩ : ∃ i, i = scanUp (fun x => lt x d1[a]!) d1 j0 i0 := ⟨_, rfl⟩
  obtain ⟨j1, hj1⟩ : ∃ j, j = scanDown (fun x => !lt x d1[a]!) d1 i1 j0 := ⟨_, rfl⟩
  have Hi1 := Lib.hid hi1
  have Hj1 := Lib.hid hj1
  have hij1 : i0 ≤ i1 ∧ i1 ≤ j0 + 1 ∧ j1 ≤ j0 ∧ i1 ≤ j1 + 1 := by
    have s1 := scanUp_spec (fun x => lt x d1[a]!) d1 j0 _ i0 rfl
    have s2 := scanDown_spec (fun x => !lt x d1[a]!) d1 i1 j0
    rw [← hi1] at s1
    rw [← hj1] at s2
    exact ⟨s1.1, s1.2.1 (by omega), s2.1, s2.2.1 (s1.2.1 (by omega))⟩
  have RES := Lib.hid (show partition lt d a b pivot = if i1 > j1 then (j1, true, swp d1 j1 a) else ((partLoop lt a (i1 + 1) (j1 - 1) (swp d1 i1 j1)).1, false, swp (partLoop lt a (i1 + 1) (j1 - 1) (swp d1 i1 j1)).2 (partLoop lt a (i1 + 1) (j1 - 1) (swp d1 i1 j1)).1 a) by
    unfold partition
    simp only [← HD1.out, ← hi0, ← hj0, ← hi1, ← hj1])
  have hb0 : i0 ≤ a + 1 ∧ a + 1 ≤ i0 ∧ j0 + 1 ≤ b ∧ b ≤ j0 + 1 := by omega
  clear hi1 hj1 hi0 hj0
  go_upto_block 0 with fail
  go_cut [10] (fun v wx => v = .int .i64 ((i1 : Nat) : Int) ∧ Rw enc k n w0 blk d1 wx ∧ KB w0 W1 wx)
  case first =>
    go_wp2_with fail
    go_loopw [10] (fun vi wr => ∃ x' : Nat, vi = .int .i64 x' ∧ i0 ≤ x' ∧ x' ≤ n + 3 ∧ Rw enc k n w0 blk d1 wr ∧ KB w0 W1 wr ∧ scanUp (fun x => lt x d1[a]!) d1 j0 x' = i1) (fun vi _ => j0 + 1 - (intOf vi).toNat)
    case atStart => exact ⟨i0, rfl, Nat.le_refl _, by omega, HR0.out, HK0.out, Hi1.out.symm⟩
    case round =>
      obtain ⟨x', rfl, h1, h2, hR, hK, hs⟩ := hrel
      have HS := Lib.hid hs
      have HK := Lib.hid hK
      have HR := Lib.hid hR
      have c0 := (X1.out.kb hK).cell 0
      simp only [List.getElem?_toArray, List.getElem?_cons_zero, List.getElem?_cons_succ] at c0
      clear hs hK hR
      by_cases hle : x' ≤ j0
      · have hl := S.less HR.out x' a (by omega) (by omega)
        cases hlv : lt d1[x']! d1[a]! with
        | true =>
          rw [hlv] at hl
          go_wp2_with (go_at_fn g; refine hl.mono ?_; rintro e w3 ⟨rfl, hR3, hK3⟩)
          go_roundw
          case rel => exact ⟨x' + 1, by go_num, by omega, by omega, hR3, HK.out.trans hK3, (scanUp_go (fun x => lt x d1[a]!) d1 j0 x' hle (by simp [hlv])).symm.trans HS.out⟩
          case measure => simp [intOf]; omega
        | false =>
          rw [hlv] at hl
          go_wp2_with (go_at_fn g; refine hl.mono ?_; rintro e w3 ⟨rfl, hR3, hK3⟩)
          go_meet
          exact ⟨val_int ((scanUp_end (fun x => lt x d1[a]!) d1 j0 x' (Or.inr (by simp [hlv]))).symm.trans HS.out), hR3, HK.out.trans hK3⟩
      · go_wp2_with fail
        go_meet
        exact ⟨val_int ((scanUp_end (fun x => lt x d1[a]!) d1 j0 x' (Or.inl hle)).symm.trans HS.out), HR.out, HK.out⟩
  case rest =>
    obtain ⟨rfl, hRc, hKc⟩ := hcut
    clear HR0 HK0
    have HR0 := Lib.hid hRc
    have HK0 := Lib.hid hKc
    clear hRc hKc
    go_upto_block 2 with fail
    go_cut [11] (fun v wx => v = .int .i64 ((j1 : Nat) : Int) ∧ Rw enc k n w0 blk d1 wx ∧ KB w0 W1 wx)
    case first =>
      go_wp2_with fail
      go_loopw [11] (fun vi wr => ∃ x' : Nat, vi = .int .i64 x' ∧ a ≤ x' ∧ x' ≤ j0 ∧ Rw enc k n w0 blk d1 wr ∧ KB w0 W1 wr ∧ scanDown (fun x => !lt x d1[a]!) d1 i1 x' = j1) (fun vi _ => (intOf vi).toNat)
      case atStart => exact ⟨j0, rfl, by omega, Nat.le_refl _, HR0.out, HK0.out, Hj1.out.symm⟩
      case round =>
        obtain ⟨x', rfl, h1, h2, hR, hK, hs⟩ := hrel
        have HS := Lib.hid hs
        have HK := Lib.hid hK
        have HR := Lib.hid hR
        have c0 := (X1.out.kb hK).cell 0
        simp only [List.getElem?_toArray, List.getElem?_cons_zero, List.getElem?_cons_succ] at c0
        clear hs hK hR
        by_cases hle : i1 ≤ x'
        · have hl := S.less HR.out x' a (by omega) (by omega)
          cases hlv : lt d1[x']! d1[a]! with
          | false =>
            rw [hlv] at hl
            go_wp2_with (go_at_fn g; refine hl.mono ?_; rintro e w3 ⟨rfl, hR3, hK3⟩)
            go_roundw
            case rel => exact ⟨x' - 1, by go_num, by omega, by omega, hR3, HK.out.trans hK3, (scanDown_go (fun x => !lt x d1[a]!) d1 i1 x' hle (by omega) (by simp [hlv])).symm.trans HS.out⟩
            case measure => simp [intOf]; omega
          | true =>
            rw [hlv] at hl
            go_wp2_with (go_at_fn g; refine hl.mono ?_; rintro e w3 ⟨rfl, hR3, hK3⟩)
            go_meet
            exact ⟨val_int ((scanDown_end (fun x => !lt x d1[a]!) d1 i1 x' (Or.inr (by simp [hlv]))).symm.trans HS.out), hR3, HK.out.trans hK3⟩
        · go_wp2_with fail
          go_meet
          exact ⟨val_int ((scanDown_end (fun x => !lt x d1[a]!) d1 i1 x' (Or.inl hle)).symm.trans HS.out), HR.out, HK.out⟩
    case rest =>
      obtain ⟨rfl, hRc, hKc⟩ := hcut
      clear HR0 HK0
      have HR0 := Lib.hid hRc
      have HK0 := Lib.hid hKc
      clear hRc hKc
      have f1 := (X1.out.kb HK0.out).cell 1
      simp only [List.getElem?_toArray, List.getElem?_cons_zero, List.getElem?_cons_succ] at f1
      by_cases hgt : i1 > j1
      · obtain ⟨w4, hs4, hR4, hK4⟩ := S.swap HR0.out j1 a (by omega) (by omega)
        have HR4 := Lib.hid hR4
        have HK4 := Lib.hid hK4
        clear hR4 hK4
        go_wp2_with fail
        go_ret2
        rw [RES.out, if_pos hgt]
        exact ⟨rfl, HR4.out, (K1.out.trans HK0.out).trans HK4.out⟩
      · obtain ⟨w4, hs4, hR4, hK4⟩ := S.swap HR0.out i1 j1 (by omega) (by omega)
        have HR4 := Lib.hid hR4
        have HK4 := Lib.hid (HK0.out.trans hK4)
        obtain ⟨i2, hi2⟩ : ∃ i, i = i1 + 1 := ⟨_, rfl⟩
        obtain ⟨j2, hj2⟩ : ∃ j, j = j1 - 1 := ⟨_, rfl⟩
        have ei2 : (i1 : Int) + 1 = (i2 : Int) := by omega
        have ej2 : (j1 : Int) - 1 = (j2 : Int) := by omega
        obtain ⟨d2, hd2⟩ : ∃ d2, d2 = swp d1 i1 j1 := ⟨_, rfl⟩
        have RES2 := Lib.hid (show partition lt d a b pivot = ((partLoop lt a i2 j2 d2).1, false, swp (partLoop lt a i2 j2 d2).2 (partLoop lt a i2 j2 d2).1 a) by rw [RES.out, if_neg hgt, ← hi2, ← hj2, ← hd2])
        rw [← hd2] at HR4
        have hb2 : a < i2 ∧ i2 ≤ n + 2 ∧ a ≤ j2 ∧ j2 < b := by omega
        clear hR4 hK4 hd2 hi2 hj2 RES HR0 HK0 Hi1 Hj1
        go_upto_block 4 with fail
        go_cut [11] (fun v wx => ∃ (j9 : Nat) (d9 : Array α), v = .int .i64 (j9 : Int) ∧ a ≤ j9 ∧ j9 < b ∧ Rw enc k n w0 blk d9 wx ∧ KB w0 W1 wx ∧ partLoop lt a i2 j2 d2 = (j9, d9))
        case first =>
          go_wp2_with fail
          clear f1 hs4 ei2 ej2
          go_loopw [10, 11] (fun vi vj wr => ∃ (i j : Nat) (dk : Array α), vi = .int .i64 i ∧ vj = .int .i64 j ∧ (a < i ∧ i ≤ n + 2 ∧ a ≤ j ∧ j < b) ∧ Rw enc k n w0 blk dk wr ∧ KB w0 W1 wr ∧ partLoop lt a i j dk = partLoop lt a i2 j2 d2) (fun vi vj _ => (intOf vj).toNat + 1 - (intOf vi).toNat)
          case atStart => exact ⟨i2, j2, d2, rfl, rfl, hb2, HR4.out, HK4.out, rfl⟩
          case round =>
            obtain ⟨i, j, dk, rfl, rfl, hbd, hRd, hKd, hpl⟩ := hrel
            have HPL := Lib.hid hpl
            have HR0 := Lib.hid hRd
            have HK0 := Lib.hid hKd
            obtain ⟨i3, hi3⟩ : ∃ x, x = scanUp (fun x => lt x dk[a]!) dk j i := ⟨_, rfl⟩
            obtain ⟨j3, hj3⟩ : ∃ x, x = scanDown (fun x => !lt x dk[a]!) dk i3 j := ⟨_, rfl⟩
            have Hi3 := Lib.hid hi3
            have Hj3 := Lib.hid hj3
            have h3 : i ≤ i3 ∧ j3 ≤ j ∧ i3 ≤ n + 2 ∧ (i ≤ j + 1 → i3 ≤ j3 + 1) ∧ a ≤ j3 := by
              have s1 := scanUp_spec (fun x => lt x dk[a]!) dk j _ i rfl
              have s2 := scanDown_spec (fun x => !lt x dk[a]!) dk i3 j
              rw [← hi3] at s1
              rw [← hj3] at s2
              have s3 : i3 ≤ n + 2 := by
                by_cases q : i ≤ j + 1
                · have := s1.2.1 q; omega
                · have : i3 = i := by rw [hi3]; exact scanUp_end _ dk j i (Or.inl (by omega))
                  omega
              refine ⟨s1.1, s2.1, s3, fun q => s2.2.1 (s1.2.1 q), ?_⟩
              by_cases q : i3 ≤ j + 1
              · have := s2.2.1 q; omega
              · have : j3 = j := by rw [hj3]; exact scanDown_end _ dk i3 j (Or.inl (by omega))
                omega
            clear hpl hRd hKd hi3 hj3 HR4 HK4
            go_upto_block 6 with fail
            go_cut [10] (fun v wx => v = .int .i64 ((i3 : Nat) : Int) ∧ Rw enc k n w0 blk dk wx ∧ KB w0 W1 wx)
            case first =>
              go_wp2_with fail
              go_loopw [10] (fun vi wr => ∃ x' : Nat, vi = .int .i64 x' ∧ i ≤ x' ∧ x' ≤ n + 3 ∧ Rw enc k n w0 blk dk wr ∧ KB w0 W1 wr ∧ scanUp (fun x => lt x dk[a]!) dk j x' = i3) (fun vi _ => j + 1 - (intOf vi).toNat)
              case atStart => exact ⟨i, rfl, Nat.le_refl _, by omega, HR0.out, HK0.out, Hi3.out.symm⟩
              case round =>
                obtain ⟨x', rfl, h1, h2, hR, hK, hs⟩ := hrel
                have HS := Lib.hid hs
                have HK := Lib.hid hK
                have HR := Lib.hid hR
                have c0 := (X1.out.kb hK).cell 0
                simp only [List.getElem?_toArray, List.getElem?_cons_zero, List.getElem?_cons_succ] at c0
                clear hs hK hR
                by_cases hle : x' ≤ j
                · have hl := S.less HR.out x' a (by omega) (by omega)
                  cases hlv : lt dk[x']! dk[a]! with
                  | true =>
                    rw [hlv] at hl
                    go_wp2_with (go_at_fn g; refine hl.mono ?_; rintro e w3 ⟨rfl, hR3, hK3⟩)
                    go_roundw
                    case rel => exact ⟨x' + 1, by go_num, by omega, by omega, hR3, HK.out.trans hK3, (scanUp_go (fun x => lt x dk[a]!) dk j x' hle (by simp [hlv])).symm.trans HS.out⟩
                    case measure => simp [intOf]; omega
                  | false =>
                    rw [hlv] at hl
                    go_wp2_with (go_at_fn g; refine hl.mono ?_; rintro e w3 ⟨rfl, hR3, hK3⟩)
                    go_meet
                    exact ⟨val_int ((scanUp_end (fun x => lt x dk[a]!) dk j x' (Or.inr (by simp [hlv]))).symm.trans HS.out), hR3, HK.out.trans hK3⟩
                · go_wp2_with fail
                  go_meet
                  exact ⟨val_int ((scanUp_end (fun x => lt x dk[a]!) dk j x' (Or.inl hle)).symm.trans HS.out), HR.out, HK.out⟩
            case rest =>
              obtain ⟨rfl, hRc, hKc⟩ := hcut
              clear HR0 HK0
              have HR0 := Lib.hid hRc
              have HK0 := Lib.hid hKc
              clear hRc hKc
              go_upto_block 8 with fail
              go_cut [11] (fun v wx => v = .int .i64 ((j3 : Nat) : Int) ∧ Rw enc k n w0 blk dk wx ∧ KB w0 W1 wx)
              case first =>
                go_wp2_with fail
                go_loopw [11] (fun vi wr => ∃ x' : Nat, vi = .int .i64 x' ∧ a ≤ x' ∧ x' ≤ j ∧ Rw enc k n w0 blk dk wr ∧ KB w0 W1 wr ∧ scanDown (fun x => !lt x dk[a]!) dk i3 x' = j3) (fun vi _ => (intOf vi).toNat)
                case atStart => exact ⟨j, rfl, by omega, Nat.le_refl _, HR0.out, HK0.out, Hj3.out.symm⟩
                case round =>
                  obtain ⟨x', rfl, h1, h2, hR, hK, hs⟩ := hrel
                  have HS := Lib.hid hs
                  have HK := Lib.hid hK
                  have HR := Lib.hid hR
                  have c0 := (X1.out.kb hK).cell 0
                  simp only [List.getElem?_toArray, List.getElem?_cons_zero, List.getElem?_cons_succ] at c0
                  clear hs hK hR
                  by_cases hle : i3 ≤ x'
                  · have hl := S.less HR.out x' a (by omega) (by omega)
                    cases hlv : lt dk[x']! dk[a]! with
                    | false =>
                      rw [hlv] at hl
                      go_wp2_with (go_at_fn g; refine hl.mono ?_; rintro e w3 ⟨rfl, hR3, hK3⟩)
                      go_roundw
                      case rel => exact ⟨x' - 1, by go_num, by omega, by omega, hR3, HK.out.trans hK3, (scanDown_go (fun x => !lt x dk[a]!) dk i3 x' hle (by omega) (by simp [hlv])).symm.trans HS.out⟩
                      case measure => simp [intOf]; omega
                    | true =>
                      rw [hlv] at hl
                      go_wp2_with (go_at_fn g; refine hl.mono ?_; rintro e w3 ⟨rfl, hR3, hK3⟩)
                      go_meet
                      exact ⟨val_int ((scanDown_end (fun x => !lt x dk[a]!) dk i3 x' (Or.inr (by simp [hlv]))).symm.trans HS.out), hR3, HK.out.trans hK3⟩
                  · go_wp2_with fail
                    go_meet
                    exact ⟨val_int ((scanDown_end (fun x => !lt x dk[a]!) dk i3 x' (Or.inl hle)).symm.trans HS.out), HR.out, HK.out⟩
              case rest =>
                obtain ⟨rfl, hRc, hKc⟩ := hcut
                clear HR0 HK0
                have HR0 := Lib.hid hRc
                have HK0 := Lib.hid hKc
                clear hRc hKc
                have f1 := (X1.out.kb HK0.out).cell 1
                simp only [List.getElem?_toArray, List.getElem?_cons_zero, List.getElem?_cons_succ] at f1
                by_cases hgt3 : i3 > j3
                · go_wp2_with fail
                  go_meet
                  exact ⟨j3, dk, rfl, by omega, by omega, HR0.out, HK0.out, by rw [← HPL.out]; exact partN_break lt a i j dk Hi3.out Hj3.out hgt3⟩
                · obtain ⟨w5, hs5, hR5, hK5⟩ := S.swap HR0.out i3 j3 (by omega) (by omega)
                  have HR5 := Lib.hid hR5
                  have HK5 := Lib.hid (HK0.out.trans hK5)
                  clear hR5 hK5
                  go_wp2_with fail
                  go_roundw
                  case rel => exact ⟨i3 + 1, j3 - 1, swp dk i3 j3, by go_num, by go_num, by omega, HR5.out, HK5.out, by rw [← HPL.out]; exact (partN_go lt a i j dk Hi3.out Hj3.out hgt3).symm⟩
                  case measure => simp [intOf]; omega
        case rest =>
          obtain ⟨j9, d9, rfl, h91, h92, hR9, hK9, hpe⟩ := hcut
          obtain ⟨w6, hs6, hR6, hK6⟩ := S.swap hR9 j9 a (by omega) (by omega)
          have HR6 := Lib.hid hR6
          have HK6 := Lib.hid ((K1.out.trans hK9).trans hK6)
          have c1 := (X1.out.kb hK9).cell 1
          simp only [List.getElem?_toArray, List.getElem?_cons_zero, List.getElem?_cons_succ] at c1
          have HPE := Lib.hid hpe
          clear hR6 hK6 hR9 hK9 hpe f1
          go_wp2_with fail
          go_ret2
          rw [RES2.out, HPE.out]
          exact ⟨rfl, HR6.out, HK6.out⟩
end
section
/- sort.partitionEqual_func, where the one that compares may make memory. -/
open Go.Shelf Go.RowKit Go.Lib Go.Sort

variable {α : Type} [Inhabited α] {enc : α → List Value} {k n : Nat} {w0 : World} {blk g sf : Nat} {lb sb : Array Value} {lt : α → α → Bool}
theorem val_intE {a b : Nat} (h : a = b) : Value.int .i64 (a : Int) = .int .i64 (b : Int) := by rw [h]
theorem ret_intE {a b : Nat} (h : a = b) : Ending.returned (.int .i64 (a : Int)) = .returned (.int .i64 (b : Int)) := by rw [h]

set_option maxHeartbeats 8000000 in
set_option maxRecDepth 100000 in
theorem parteq_any (S : SortBy g lb sf sb enc k n lt blk w0) {W : World} {d : Array α} (hW : Rw enc k n w0 blk d W) (a b pivot : Nat) (hab : a + 1 < b) (hb : b ≤ n) (hp : a ≤ pivot ∧ pivot < b) :
    Calls Tryd.prog 82 #[.agg (twoA g lb sf sb), .int .i64 a, .int .i64 b, .int .i64 pivot] W fun e w' =>
      e = .returned (.int .i64 ((partitionEqual lt d a b pivot).1 : Nat)) ∧ Rw enc k n w0 blk (partitionEqual lt d a b pivot).2 w' ∧ KB w0 W w' := by
  have eg := S.eg
  have hfew := S.few
  obtain ⟨W1, hW1⟩ : ∃ W1, W1 = W.alloc (.cells (twoA g lb sf sb) 141) := ⟨_, rfl⟩
  obtain ⟨B, hB⟩ : ∃ B, B = W.heap.size := ⟨_, rfl⟩
  have R1 := Lib.hid (show Rw enc k n w0 blk d W1 by rw [hW1]; exact hW.alloc _)
  have X1 := Lib.hid (show Bx w0 W1 B (twoA g lb sf sb) 141 by rw [hW1, hB]; exact Bx.new hW.le _ _)
  have K1 := Lib.hid (show KB w0 W W1 by rw [hW1]; exact (KB.refl _ _).alloc _)
  have HW1 := Lib.hid hW1
  have HB := Lib.hid hB
  clear hW1 hB hW
  obtain ⟨d1, hd1⟩ : ∃ d1, d1 = swp d a pivot := ⟨_, rfl⟩
  have HD1 := Lib.hid hd1
  obtain ⟨w2, hsw, hR2, hK2⟩ := S.swap R1.out a pivot (by omega) (by omega)
  rw [← hd1] at hR2
  clear hd1
  have HR0 := Lib.hid hR2
  have HK0 := Lib.hid hK2
  clear hR2 hK2
  obtain ⟨i0, hi0⟩ : ∃ i, i = a + 1 := ⟨_, rfl⟩
  obtain ⟨j0, hj0⟩ : ∃ j, j = b - 1 := ⟨_, rfl⟩
  have ei : (a : Int) + 1 = (i0 : Int) := by omega
  have ej : (b : Int) - 1 = (j0 : Int) := by omega
  have f1 := X1.out.cell 1
  simp only [List.getElem?_toArray, List.getElem?_cons_zero, List.getElem?_cons_succ] at f1
  go_enter Tryd.func82, Tryd.ntmps82
  go_upto_region 1 with fail
  rw [← HW1.out, ← HB.out]
  go_upto_region 2 with fail
  clear f1
  have RES2 := Lib.hid (show partitionEqual lt d a b pivot = partEqLoop lt a i0 j0 d1 by
    unfold partitionEqual
    rw [← HD1.out, ← hi0, ← hj0])
  have hb2 : a < i0 ∧ i0 ≤ n + 2 ∧ a ≤ j0 ∧ j0 < b := by omega
  have hb0 : i0 ≤ a + 1 ∧ a + 1 ≤ i0 ∧ j0 + 1 ≤ b ∧ b ≤ j0 + 1 := by omega
  clear hi0 hj0
  go_upto_block 0 with fail
  go_cut [9] (fun v wx => ∃ (i9 : Nat) (d9 : Array α), v = .int .i64 (i9 : Int) ∧ Rw enc k n w0 blk d9 wx ∧ KB w0 W1 wx ∧ partEqLoop lt a i0 j0 d1 = (i9, d9))
  case first =>
    go_wp2_with fail
    clear ei ej hsw
    go_loopw [9, 10] (fun vi vj wr => ∃ (i j : Nat) (dk : Array α), vi = .int .i64 i ∧ vj = .int .i64 j ∧ (a < i ∧ i ≤ n + 2 ∧ a ≤ j ∧ j < b) ∧ Rw enc k n w0 blk dk wr ∧ KB w0 W1 wr ∧ partEqLoop lt a i j dk = partEqLoop lt a i0 j0 d1) (fun vi vj _ => (intOf vj).toNat + 1 - (intOf vi).toNat)
    case atStart => exact ⟨i0, j0, d1, rfl, rfl, hb2, HR0.out, HK0.out, rfl⟩
    case round =>
      obtain ⟨i, j, dk, rfl, rfl, hbd, hRd, hKd, hpl⟩ := hrel
      have HPL := Lib.hid hpl
      clear HR0 HK0
      have HR0 := Lib.hid hRd
      have HK0 := Lib.hid hKd
      obtain ⟨i3, hi3⟩ : ∃ x, x = scanUp (fun x => !lt dk[a]! x) dk j i := ⟨_, rfl⟩
      obtain ⟨j3, hj3⟩ : ∃ x, x = scanDown (fun x => lt dk[a]! x) dk i3 j := ⟨_, rfl⟩
      have Hi3 := Lib.hid hi3
      have Hj3 := Lib.hid hj3
      have h3 : i ≤ i3 ∧ j3 ≤ j ∧ i3 ≤ n + 2 ∧ a ≤ j3 := by
        have s1 := scanUp_spec (fun x => !lt dk[a]! x) dk j _ i rfl
        have s2 := scanDown_spec (fun x => lt dk[a]! x) dk i3 j
        rw [← hi3] at s1
        rw [← hj3] at s2
        have s3 : i3 ≤ n + 2 := by
          by_cases q : i ≤ j + 1
          · have := s1.2.1 q; omega
          · have : i3 = i := by rw [hi3]; exact scanUp_end _ dk j i (Or.inl (by omega))
            omega
        refine ⟨s1.1, s2.1, s3, ?_⟩
        by_cases q : i3 ≤ j + 1
        · have := s2.2.1 q; omega
        · have : j3 = j := by rw [hj3]; exact scanDown_end _ dk i3 j (Or.inl (by omega))
          omega
      clear hpl hRd hKd hi3 hj3
      go_upto_block 2 with fail
      go_cut [9] (fun v wx => v = .int .i64 ((i3 : Nat) : Int) ∧ Rw enc k n w0 blk dk wx ∧ KB w0 W1 wx)
      case first =>
        go_wp2_with fail
        go_loopw [9] (fun vi wr => ∃ x' : Nat, vi = .int .i64 x' ∧ i ≤ x' ∧ x' ≤ n + 3 ∧ Rw enc k n w0 blk dk wr ∧ KB w0 W1 wr ∧ scanUp (fun x => !lt dk[a]! x) dk j x' = i3) (fun vi _ => j + 1 - (intOf vi).toNat)
        case atStart => exact ⟨i, rfl, Nat.le_refl _, by omega, HR0.out, HK0.out, Hi3.out.symm⟩
        case round =>
          obtain ⟨x', rfl, h1, h2, hR, hK, hs⟩ := hrel
          have HS := Lib.hid hs
          have HK := Lib.hid hK
          have HR := Lib.hid hR
          have c0 := (X1.out.kb hK).cell 0
          simp only [List.getElem?_toArray, List.getElem?_cons_zero, List.getElem?_cons_succ] at c0
          clear hs hK hR
          by_cases hle : x' ≤ j
          · have hl := S.less HR.out a x' (by omega) (by omega)
            cases hlv : lt dk[a]! dk[x']! with
            | false =>
              rw [hlv] at hl
              go_wp2_with (go_at_fn g; refine hl.mono ?_; rintro e w3 ⟨rfl, hR3, hK3⟩)
              go_roundw
              case rel => exact ⟨x' + 1, by go_num, by omega, by omega, hR3, HK.out.trans hK3, (scanUp_go (fun x => !lt dk[a]! x) dk j x' hle (by simp [hlv])).symm.trans HS.out⟩
              case measure => simp [intOf]; omega
            | true =>
              rw [hlv] at hl
              go_wp2_with (go_at_fn g; refine hl.mono ?_; rintro e w3 ⟨rfl, hR3, hK3⟩)
              go_meet
              exact ⟨val_intE ((scanUp_end (fun x => !lt dk[a]! x) dk j x' (Or.inr (by simp [hlv]))).symm.trans HS.out), hR3, HK.out.trans hK3⟩
          · go_wp2_with fail
            go_meet
            exact ⟨val_intE ((scanUp_end (fun x => !lt dk[a]! x) dk j x' (Or.inl hle)).symm.trans HS.out), HR.out, HK.out⟩
      case rest =>
        obtain ⟨rfl, hRc, hKc⟩ := hcut
        clear HR0 HK0
        have HR0 := Lib.hid hRc
        have HK0 := Lib.hid hKc
        clear hRc hKc
        go_upto_block 4 with fail
        go_cut [10] (fun v wx => v = .int .i64 ((j3 : Nat) : Int) ∧ Rw enc k n w0 blk dk wx ∧ KB w0 W1 wx)
        case first =>
          go_wp2_with fail
          go_loopw [10] (fun vi wr => ∃ x' : Nat, vi = .int .i64 x' ∧ a ≤ x' ∧ x' ≤ j ∧ Rw enc k n w0 blk dk wr ∧ KB w0 W1 wr ∧ scanDown (fun x => lt dk[a]! x) dk i3 x' = j3) (fun vi _ => (intOf vi).toNat)
          case atStart => exact ⟨j, rfl, by omega, Nat.le_refl _, HR0.out, HK0.out, Hj3.out.symm⟩
          case round =>
            obtain ⟨x', rfl, h1, h2, hR, hK, hs⟩ := hrel
            have HS := Lib.hid hs
            have HK := Lib.hid hK
            have HR := Lib.hid hR
            have c0 := (X1.out.kb hK).cell 0
            simp only [List.getElem?_toArray, List.getElem?_cons_zero, List.getElem?_cons_succ] at c0
            clear hs hK hR
            by_cases hle : i3 ≤ x'
            · have hl := S.less HR.out a x' (by omega) (by omega)
              cases hlv : lt dk[a]! dk[x']! with
              | true =>
                rw [hlv] at hl
                go_wp2_with (go_at_fn g; refine hl.mono ?_; rintro e w3 ⟨rfl, hR3, hK3⟩)
                go_roundw
                case rel => exact ⟨x' - 1, by go_num, by omega, by omega, hR3, HK.out.trans hK3, (scanDown_go (fun x => lt dk[a]! x) dk i3 x' hle (by omega) (by simp [hlv])).symm.trans HS.out⟩
                case measure => simp [intOf]; omega
              | false =>
                rw [hlv] at hl
                go_wp2_with (go_at_fn g; refine hl.mono ?_; rintro e w3 ⟨rfl, hR3, hK3⟩)
                go_meet
                exact ⟨val_intE ((scanDown_end (fun x => lt dk[a]! x) dk i3 x' (Or.inr (by simp [hlv]))).symm.trans HS.out), hR3, HK.out.trans hK3⟩
            · go_wp2_with fail
              go_meet
              exact ⟨val_intE ((scanDown_end (fun x => lt dk[a]! x) dk i3 x' (Or.inl hle)).symm.trans HS.out), HR.out, HK.out⟩
        case rest =>
          obtain ⟨rfl, hRc, hKc⟩ := hcut
          clear HR0 HK0
          have HR0 := Lib.hid hRc
          have HK0 := Lib.hid hKc
          clear hRc hKc
          have f1 := (X1.out.kb HK0.out).cell 1
          simp only [List.getElem?_toArray, List.getElem?_cons_zero, List.getElem?_cons_succ] at f1
          by_cases hgt3 : i3 > j3
          · go_wp2_with fail
            go_meet
            exact ⟨i3, dk, rfl, HR0.out, HK0.out, by rw [← HPL.out]; exact partEq_break lt a i j dk Hi3.out Hj3.out hgt3⟩
          · obtain ⟨w5, hs5, hR5, hK5⟩ := S.swap HR0.out i3 j3 (by omega) (by omega)
            have HR5 := Lib.hid hR5
            have HK5 := Lib.hid (HK0.out.trans hK5)
            clear hR5 hK5
            go_wp2_with fail
            go_roundw
            case rel => exact ⟨i3 + 1, j3 - 1, swp dk i3 j3, by go_num, by go_num, by omega, HR5.out, HK5.out, by rw [← HPL.out]; exact (partEq_go lt a i j dk Hi3.out Hj3.out hgt3).symm⟩
            case measure => simp [intOf]; omega
  case rest =>
    obtain ⟨i9, d9, rfl, hR9, hK9, hpe⟩ := hcut
    have HPE := Lib.hid hpe
    clear hpe
    go_wp2_with fail
    go_ret
    rw [RES2.out, HPE.out]
    exact ⟨rfl, hR9, K1.out.trans hK9⟩
end
end Go.Proofs.YtelohoomlgjjmaaDoor
