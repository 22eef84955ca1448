/- Sorting by a function that may make memory: what the walks of package sort lean on. -/
import Derived.Shelf.SlSortFuncK.SWK
import Derived.Test.YtilklfmcdgggfaaProg
import Derived.Test.YtilklfmcdgggfaaBks
import Derived.Below
import Derived.WalkKit
import Derived.Lib.Hide
namespace Go.Proofs.Ytilklfmcdgggfaa
open Go.Shelf Go.RowKit Go.Lib Go.Sort
set_option linter.unusedVariables false

/-- What was made since a world is as it was. -/
structure KB (w0 W W' : World) : Prop where
  size : W.heap.size ≤ W'.heap.size
  block : ∀ i, w0.heap.size ≤ i → i < W.heap.size → W'.heap[i]? = W.heap[i]?
theorem KB.refl (w0 W : World) : KB w0 W W := ⟨Nat.le_refl _, fun _ _ _ => rfl⟩
theorem KB.trans {w0 W1 W2 W3 : World} (h : KB w0 W1 W2) (h2 : KB w0 W2 W3) : KB w0 W1 W3 :=
  ⟨Nat.le_trans h.size h2.size, fun i hi hk => (h2.block i hi (Nat.lt_of_lt_of_le hk h.size)).trans (h.block i hi hk)⟩
theorem KB.alloc {w0 W1 W2 : World} (h : KB w0 W1 W2) (o : Obj) : KB w0 W1 (W2.alloc o) :=
  h.trans ⟨by simp, fun i _ hi => Below.heap_alloc W2 o i hi⟩
theorem KB.ofBelow {w0 W1 W2 : World} (h : Below W1.heap.size W1 W2) : KB w0 W1 W2 := ⟨h.size, fun i _ hi => h.block i hi⟩
theorem KB.cell {w0 W1 W2 : World} (h : KB w0 W1 W2) {p : Addr} (h1 : w0.heap.size ≤ p.block) (h2 : p.block < W1.heap.size) : W2.cell? p = W1.cell? p := by
  simp only [World.cell?, h.block p.block h1 h2]
theorem KB.frozen {w0 W1 W2 : World} (h : KB w0 W1 W2) {p : Addr} (h1 : w0.heap.size ≤ p.block) (h2 : p.block < W1.heap.size) : W2.frozen? p = W1.frozen? p := by
  simp only [World.frozen?, h.block p.block h1 h2]

section
variable {α : Type} [Inhabited α]

/-- The row holds these; of the blocks that were there it alone has turned. -/
structure Rw (enc : α → List Value) (k n : Nat) (w0 : World) (blk : Nat) (d : Array α) (W : World) : Prop where
  hold : HoldsK enc k W blk 0 d
  size : d.size = n
  grown : w0.grownBy W (some blk)
  old : blk < w0.heap.size

/-- What sorts: by which function, and which one swaps. -/
structure SortBy (g : Nat) (lb : Array Value) (sf : Nat) (sb : Array Value) (enc : α → List Value) (k n : Nat) (lt : α → α → Bool) (blk : Nat) (w0 : World) : Prop where
  few : n < 1152921504606846976
  old : blk < w0.heap.size
  less : ∀ {W : World} {d : Array α}, Rw enc k n w0 blk d W → ∀ i j : Nat, i < n → j < n →
    Calls Try.prog g (#[.int .i64 i, .int .i64 j] ++ lb) W fun e w' => e = .returned (.bool (lt d[i]! d[j]!)) ∧ Rw enc k n w0 blk d w' ∧ KB w0 W w'
  swap : ∀ {W : World} {d : Array α}, Rw enc k n w0 blk d W → ∀ i j : Nat, i < n → j < n →
    ∃ W', (callFunc sf (#[.int .i64 i, .int .i64 j] ++ sb)).run Try.prog W = .ok (.value (.tuple #[])) W' ∧ Rw enc k n w0 blk (swp d i j) W' ∧ KB w0 W W'
  eg : ∀ (args : Array Value) (w : World), (callFunc g args).run Try.prog w = .ok (.enter g args) w
  older : SwapSwapsK Try.prog sf sb enc k blk 0 n
  len : ∀ x, (enc x).length = k

variable {enc : α → List Value} {k n : Nat} {w0 W : World} {blk : Nat} {d : Array α}
theorem Rw.le (h : Rw enc k n w0 blk d W) : w0.heap.size ≤ W.heap.size := h.grown.size
theorem Rw.lt (h : Rw enc k n w0 blk d W) : blk < W.heap.size := Nat.lt_of_lt_of_le h.old h.le
theorem holdsK_same {W W' : World} (h : HoldsK enc k W blk 0 d) (hb : W'.heap[blk]? = W.heap[blk]?) : HoldsK enc k W' blk 0 d := by
  intro j hj
  obtain ⟨h1, h2⟩ := h j hj
  have e1 : W'.cell? ⟨blk, 0 + j, none⟩ = W.cell? ⟨blk, 0 + j, none⟩ := by simp only [World.cell?, hb]
  have e2 : W'.frozen? ⟨blk, 0 + j, none⟩ = W.frozen? ⟨blk, 0 + j, none⟩ := by simp only [World.frozen?, hb]
  exact ⟨e1.trans h1, e2.trans h2⟩
theorem Rw.below {W' : World} (h : Rw enc k n w0 blk d W) (hb : RowKit.Below W.heap.size W W') : Rw enc k n w0 blk d W' :=
  ⟨holdsK_same h.hold (hb.block blk h.lt), h.size, ⟨hb.os.trans h.grown.os, hb.tape.trans h.grown.tape, hb.output.trans h.grown.output, Nat.le_trans h.grown.size hb.size,
    fun i hi hne => (hb.block i (Nat.lt_of_lt_of_le hi h.grown.size)).trans (h.grown.block i hi hne)⟩, h.old⟩
theorem Rw.alloc (h : Rw enc k n w0 blk d W) (o : Obj) : Rw enc k n w0 blk d (W.alloc o) := h.below ((RowKit.Below.refl _ _).alloc (Nat.le_refl _) o)
theorem Rw.setNew {c j : Nat} (h : Rw enc k n w0 blk d W) (hc : w0.heap.size ≤ c) (u : Value) : Rw enc k n w0 blk d (W.setCell ⟨c, j, none⟩ u) :=
  ⟨holdsK_same h.hold (RowKit.Below.heap_setCell W ⟨c, j, none⟩ u blk (by have := h.old; show blk ≠ c; omega)), h.size,
    ⟨h.grown.os, h.grown.tape, h.grown.output, by simpa using h.grown.size, fun i hi hne => (RowKit.Below.heap_setCell W ⟨c, j, none⟩ u i (by show i ≠ c; omega)).trans (h.grown.block i hi hne)⟩, h.old⟩

/-- A block of the sort's own: its cells. -/
def Bx (w0 W : World) (b : Nat) (cs : Array Value) (t : TypeId) : Prop := w0.heap.size ≤ b ∧ Blk W b cs t
theorem Bx.new {w0 W : World} (h : w0.heap.size ≤ W.heap.size) (cs : Array Value) (t : TypeId) : Bx w0 (W.alloc (.cells cs t)) W.heap.size cs t := ⟨h, Blk.new _ _ _⟩
theorem Bx.kb {w0 W W' : World} {b : Nat} {cs : Array Value} {t : TypeId} (h : Bx w0 W b cs t) (hk : KB w0 W W') : Bx w0 W' b cs t := ⟨h.1, (hk.block b h.1 h.2.lt).trans h.2⟩
theorem Bx.cell {w0 W : World} {b : Nat} {cs : Array Value} {t : TypeId} (h : Bx w0 W b cs t) (j : Nat) : W.cell? ⟨b, j, none⟩ = cs[j]? := h.2.cell j
abbrev twoA (g : Nat) (lb : Array Value) (sf : Nat) (sb : Array Value) : Array Value := #[.func (.func g) #[] lb, .func (.func sf) #[] sb]
end
end Go.Proofs.Ytilklfmcdgggfaa
