/- Blocks of cells that a call has made itself: what they hold, what a store makes of them, and a text out of them; with no program in sight. -/
import Derived.WalkKit
import Derived.WalkSpells
import Derived.Laws.IdiomStrings
namespace Go.Proofs.Ytmbafeemiclmeaa
open Go.RowKit

/-- Block g begins with these cells, none of them frozen. -/
def Has (w : World) (g : Nat) (l : List Value) : Prop := ∀ j (hj : j < l.length), w.cell? ⟨g, j, none⟩ = some l[j] ∧ w.frozen? ⟨g, j, none⟩ = false

theorem Has.of_owns {w : World} {base : Nat} {e : TypeId} {g cap n : Nat} {xs : List Value} (h : w.ownsRow base e 1 (.slice (some ⟨g, 0, none⟩) n cap) n xs) : Has w g xs := by
  intro j hj
  have hl : xs.length = n * 1 := h.1
  refine ⟨?_, h.frozenAt j⟩
  rw [h.cellAt j (by omega), List.getElem?_eq_getElem hj]

theorem Has.set {w : World} {g : Nat} {l : List Value} (h : Has w g l) (j : Nat) (u : Value) : Has (w.setCell ⟨g, j, none⟩ u) g (l.set j u) := by
  intro i hi
  have hi' : i < l.length := by simpa using hi
  obtain ⟨h1, h2⟩ := h i hi'
  refine ⟨?_, by simpa using h2⟩
  by_cases c : j = i
  · subst c
    rw [World.cell?_setCell_same (w := w) (h := h1)]
    simp
  · rw [World.cell?_setCell_other (w := w) (h := by simp only [ne_eq, Addr.mk.injEq, true_and, and_true]; omega), h1]
    simp [c]

theorem Has.other {w : World} {g : Nat} {l : List Value} (h : Has w g l) {a : Addr} (ha : a.block ≠ g) (u : Value) : Has (w.setCell a u) g l := by
  intro i hi
  obtain ⟨h1, h2⟩ := h i hi
  refine ⟨?_, by simpa using h2⟩
  rw [World.cell?_setCell_other (w := w) (h := by intro e; apply ha; rw [e]), h1]

theorem Has.below {w w' : World} {B g : Nat} {l : List Value} (h : Has w g l) (hb : Below B w w') (hg : g < B) : Has w' g l := by
  intro i hi
  obtain ⟨h1, h2⟩ := h i hi
  exact ⟨by rw [hb.cell (p := ⟨g, i, none⟩) hg, h1], by rw [hb.frozen (p := ⟨g, i, none⟩) hg, h2]⟩

theorem Has.drew {w : World} {g : Nat} {l : List Value} (h : Has w g l) : Has w.drew g l := fun j hj => by
  simpa using h j hj

theorem Has.cellAt {w : World} {g : Nat} {l : List Value} (h : Has w g l) (j : Nat) (hj : j < l.length) : w.cell? ⟨g, j, none⟩ = some l[j] := (h j hj).1
theorem Has.freeAt {w : World} {g : Nat} {l : List Value} (h : Has w g l) (j : Nat) (hj : j < l.length) : w.frozen? ⟨g, j, none⟩ = false := (h j hj).2

theorem Has.someAt {w : World} {g : Nat} {l : List Value} (h : Has w g l) (j : Nat) (hj : j < l.length) : ∃ v, w.cell? ⟨g, j, none⟩ = some v := ⟨_, (h j hj).1⟩

theorem made_one (v : Value) (h : v.cells = #[v]) (n : Nat) : (madeCells v.cells (n * 1)).toList = List.replicate n v := by
  rw [h, Nat.mul_one]
  apply List.ext_getElem
  · simp [madeCells]
  · intro i h1 h2
    simp [madeCells, Nat.mod_one]

/-- A byte as a cell holds it. -/
def bv (b : UInt8) : Value := .int .u8 (b.toNat : Int)

/-- A text out of such a block. -/
theorem Has.text {P : Program} {w : World} {g cap : Nat} {l : List UInt8} (h : Has w g (l.map bv)) (src dst e : TypeId) (hs : P.underlying src = some (.slice e)) (he : P.underlying e = some (.int .u8)) (hd : P.underlying dst = some .string) (n : Nat) (hn : n = l.length) :
    (convert src dst (.slice (some ⟨g, 0, none⟩) n cap)).run P w = .ok (.string ⟨l.toArray⟩) w := by
  subst hn
  refine run_convert_bytes_back w src dst e ⟨g, 0, none⟩ cap l hs he hd ?_
  intro j hj
  have := (h j (by simpa using hj)).1
  have e : (⟨g, 0, none⟩ : Addr).add j = ⟨g, j, none⟩ := by cases j <;> simp [Addr.add]
  rw [e, this]
  simp [bv]

/-- The bytes of a text as a block of its own. -/
theorem Has.of_text (w : World) (s : ByteArray) (e : TypeId) (cap : Nat) : Has (w.drew.alloc (.cells (bytesRow s cap) e ((bytesRow s cap).size, (bytesRow s cap).size + 1))) w.heap.size (s.data.toList.map bv) := by
  intro j hj
  have hj' : j < s.data.size := by simpa using hj
  refine ⟨?_, ?_⟩
  · have := World.cell?_alloc_mark w.drew (bytesRow s cap) e ((bytesRow s cap).size, (bytesRow s cap).size + 1) j
    rw [show w.drew.heap.size = w.heap.size from rfl] at this
    rw [this, bytesRow_at s cap j hj']
    simp [bv]
  · have := World.frozen?_alloc_mark w.drew (bytesRow s cap) e (bytesRow s cap).size ((bytesRow s cap).size + 1) j
    rw [show w.drew.heap.size = w.heap.size from rfl] at this
    rw [this]
    have : j < (bytesRow s cap).size := by
      have := bytesRow_at s cap j hj'
      exact (Array.getElem?_eq_some_iff.1 this).1
    simp
    omega

theorem Has.lt {w : World} {g : Nat} {l : List Value} (h : Has w g l) (hl : 0 < l.length) : g < w.heap.size := by
  have h0 := (h 0 hl).1
  rcases Nat.lt_or_ge g w.heap.size with c | c
  · exact c
  · simp [World.cell?, Array.getElem?_eq_none c] at h0

theorem setCell_grown (w : World) (a : Addr) (v : Value) : w.grownBy (w.setCell a v) (some a.block) :=
  ⟨rfl, rfl, rfl, by simp [World.setCell], fun k _ hk => Below.heap_setCell _ _ _ _ (fun e => hk (by rw [e]))⟩

theorem grown_trans {a b c : World} {r : Option Nat} (h : a.grownBy b r) (k : b.grownBy c r) : a.grownBy c r :=
  ⟨k.os.trans h.os, k.tape.trans h.tape, k.output.trans h.output, Nat.le_trans h.size k.size, fun i hi hr => (k.block i (Nat.lt_of_lt_of_le hi h.size) hr).trans (h.block i hi hr)⟩

theorem grown_none {a b : World} {r : Option Nat} (h : a.grownBy b none) : a.grownBy b r :=
  ⟨h.os, h.tape, h.output, h.size, fun i hi _ => h.block i hi (by simp)⟩

theorem grown_drew (w : World) (r : Option Nat) : w.grownBy w.drew r := ⟨rfl, rfl, rfl, Nat.le_refl _, fun _ _ _ => rfl⟩

theorem Below.grownBy {a b : World} (h : Below a.heap.size a b) (r : Option Nat) : a.grownBy b r :=
  ⟨h.os, h.tape, h.output, h.size, fun i hi _ => h.block i hi⟩

theorem Has.grown {w w' : World} {g : Nat} {l : List Value} {r : Option Nat} (h : Has w g l) (hg : w.grownBy w' r) (hr : some g ≠ r) : Has w' g l := by
  intro i hi
  obtain ⟨h1, h2⟩ := h i hi
  have hl := h.lt (by omega)
  have hb := hg.block g hl hr
  exact ⟨by rw [World.cell?_of_block (w := w) (a := ⟨g, i, none⟩) hb, h1], by rw [World.frozen?_of_block (w := w) (a := ⟨g, i, none⟩) hb, h2]⟩

/-- The bytes of a text, as a conversion lays them. -/
theorem bytes_of_text {P : Program} (w : World) (src dst e : TypeId) (s : ByteArray) (hs : P.underlying src = some .string) (hd : P.underlying dst = some (.slice e)) (he : P.underlying e = some (.int .u8)) :
    ∃ cap w2, (convert src dst (.string s)).run P w = .ok (.slice (some ⟨w.heap.size, 0, none⟩) s.size cap) w2 ∧ Has w2 w.heap.size (s.data.toList.map bv) ∧ w.grownBy w2 none ∧ w2.heap.size = w.heap.size + 1 :=
  ⟨_, _, run_bytes_of_string w src dst e s hs hd he, Has.of_text w s e _, grown_trans (grown_drew w none) (World.grownBy_alloc _ _ _), by simp⟩

end Go.Proofs.Ytmbafeemiclmeaa
