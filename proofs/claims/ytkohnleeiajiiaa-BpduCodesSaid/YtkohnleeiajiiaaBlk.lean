/- Blocks of cells that are known whole. -/
import Derived.Test.YtkohnleeiajiiaaMac
import Derived.Laws.CopyOwn
import Derived.Lib.BufferWrite
namespace Go.Proofs.Ytkohnleeiajiiaa
open Go.RowKit

/-- Block g is just these cells. -/
def Blk (w : World) (g : Nat) (cs : Array Value) (t : TypeId) : Prop := w.heap[g]? = some (.cells cs t (0, 0))

theorem Blk.set {w : World} {g : Nat} {cs : Array Value} {t : TypeId} (h : Blk w g cs t) (j : Nat) (u : Value) : Blk (w.setCell ⟨g, j, none⟩ u) g (cs.setIfInBounds j u) t := heap_setCell_same w g j cs t u h
theorem Blk.other {w : World} {g : Nat} {cs : Array Value} {t : TypeId} (h : Blk w g cs t) {a : Addr} (ha : a.block ≠ g) (u : Value) : Blk (w.setCell a u) g cs t := (heap_setCell_other w a g u (fun e => ha e.symm)).trans h
theorem Blk.cell {w : World} {g : Nat} {cs : Array Value} {t : TypeId} (h : Blk w g cs t) (j : Nat) : w.cell? ⟨g, j, none⟩ = cs[j]? := cell_of_row w g j cs t (0, 0) h
theorem Blk.free {w : World} {g : Nat} {cs : Array Value} {t : TypeId} (h : Blk w g cs t) (j : Nat) : w.frozen? ⟨g, j, none⟩ = false := frozen_of_row w g j cs t h
theorem Blk.lt {w : World} {g : Nat} {cs : Array Value} {t : TypeId} (h : Blk w g cs t) : g < w.heap.size := by
  rcases Nat.lt_or_ge g w.heap.size with c | c
  · exact c
  · unfold Blk at h
    rw [Array.getElem?_eq_none c] at h
    cases h
theorem Blk.below {w w' : World} {B g : Nat} {cs : Array Value} {t : TypeId} (h : Blk w g cs t) (hb : Below B w w') (hg : g < B) : Blk w' g cs t := (hb.block g hg).trans h
theorem Blk.alloc {w : World} {g : Nat} {cs : Array Value} {t : TypeId} (h : Blk w g cs t) (o : Obj) : Blk (w.alloc o) g cs t := (Below.heap_alloc w o g h.lt).trans h
theorem Blk.new (w : World) (cs : Array Value) (t : TypeId) : Blk (w.alloc (.cells cs t)) w.heap.size cs t := by
  show (w.heap.push _)[w.heap.size]? = _
  simp
theorem Blk.drew {w : World} {g : Nat} {cs : Array Value} {t : TypeId} (h : Blk w g cs t) : Blk w.drew g cs t := h
theorem Blk.row {w : World} {g : Nat} {cs : Array Value} {t : TypeId} (h : Blk w g cs t) (new : Array Value) : Blk (w.setRow g new) g new t := setRow_heap w g cs new t (0, 0) h
theorem Blk.grown {w w' : World} {g : Nat} {cs : Array Value} {t : TypeId} {r : Option Nat} (h : Blk w g cs t) (hg : w.grownBy w' r) (hr : some g ≠ r) : Blk w' g cs t := (hg.block g h.lt hr).trans h

theorem Blk.rowOther {w : World} {g k : Nat} {cs : Array Value} {t : TypeId} (h : Blk w g cs t) (hk : g ≠ k) (new : Array Value) : Blk (w.setRow k new) g cs t := (setRow_other w k g new hk).trans h

theorem Blk.free6 {w : World} {g : Nat} {cs : Array Value} {t : TypeId} (h : Blk w g cs t) :
    w.frozen? ⟨g, 0, none⟩ = false ∧ w.frozen? ⟨g, 1, none⟩ = false ∧ w.frozen? ⟨g, 2, none⟩ = false ∧ w.frozen? ⟨g, 3, none⟩ = false ∧ w.frozen? ⟨g, 4, none⟩ = false ∧ w.frozen? ⟨g, 5, none⟩ = false :=
  ⟨h.free 0, h.free 1, h.free 2, h.free 3, h.free 4, h.free 5⟩

/-- Six cells known whole, one by one. -/
theorem Blk.six {w : World} {g : Nat} {t : TypeId} {c0 c1 c2 c3 c4 c5 : Value} (h : Blk w g #[c0, c1, c2, c3, c4, c5] t) :
    w.cell? ⟨g, 0, none⟩ = some c0 ∧ w.cell? ⟨g, 1, none⟩ = some c1 ∧ w.cell? ⟨g, 2, none⟩ = some c2 ∧ w.cell? ⟨g, 3, none⟩ = some c3 ∧ w.cell? ⟨g, 4, none⟩ = some c4 ∧ w.cell? ⟨g, 5, none⟩ = some c5 :=
  ⟨h.cell 0, h.cell 1, h.cell 2, h.cell 3, h.cell 4, h.cell 5⟩

/-- Two results: a row, and a slot. -/
theorem results_row_tmp {P : Program} {fn : Func} {p u : Tmp} {ty : TypeId} (h : fn.results = #[.cell p ty, .tmp u]) (tmps : Array Value) (w : World) (g : Nat) (t : TypeId) (cs : Array Value) (v : Value) (d : TypeDesc)
    (hp : tmps.getD p undef = .pointer (some ⟨g, 0, none⟩)) (hv : tmps.getD u undef = v) (hg : Blk w g cs t)
    (hu : P.underlying ty = some d) (hd : (match d with | .struct _ | .array _ _ => true | _ => false) = true) (hi : (P.info? ty).map (·.size) = some cs.size) :
    (results fn tmps).run P w = .ok (.tuple #[.agg cs, v]) w := by
  have hp' : tmps[p]?.getD undef = .pointer (some ⟨g, 0, none⟩) := by simpa using hp
  have hv' : tmps[u]?.getD undef = v := by simpa using hv
  simp [results, h, hp', hv', asAddr, run_loadVar_row w g t ty cs (0, 0) d hg hu hd hi]

/-- Six bytes as an array of cells. -/
abbrev macA (m : Nat → Nat) : Array Value := #[.int .u8 (m 0 : Nat), .int .u8 (m 1 : Nat), .int .u8 (m 2 : Nat), .int .u8 (m 3 : Nat), .int .u8 (m 4 : Nat), .int .u8 (m 5 : Nat)]

theorem bytes6 (x : Nat) : (Lib.byteCells (Nums.bytesN x 6)) = macL (byteF x) := by
  simp [Nums.bytesN, Lib.byteCells, macL, byteF]

theorem copy_six (w : World) (g x : Nat) (ty : TypeId) (cur : Array Value) (hc : cur.size = 6) (h : Blk w g cur 39) :
    (Builtin.copy_ #[76, 9] ty #[.slice (some ⟨g, 0, none⟩) 6 6, .string ⟨(Nums.bytesN x 6).toArray⟩]).run Try.prog w = .ok (goInt 6) (w.setRow g (macA (byteF x))) := by
  have hs : (⟨(Nums.bytesN x 6).toArray⟩ : ByteArray).size = 6 := by show (Nums.bytesN x 6).toArray.size = 6; simp [Nums.bytesN_length]
  obtain ⟨i, hi, _, h1, _⟩ := info_parts Try.info5'
  have := Lib.run_copy_row_string (P := Try.prog) w 76 9 ty 5 g 0 6 6 ⟨(Nums.bytesN x 6).toArray⟩ cur 39 Try.underlying76 (by rw [hi]; simp [h1]) h (by omega) (by omega)
  rw [this, hs]
  have hd : cur.toList.drop (0 + 6) = [] := List.drop_eq_nil_of_le (by rw [Array.length_toList]; omega)
  rw [hd]
  simp only [bytes6, List.take_zero, List.nil_append, List.append_nil]
  rfl

end Go.Proofs.Ytkohnleeiajiiaa
