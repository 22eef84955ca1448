/- Blocks of cells that are known whole; loads of rows and of parts of rows; stores of one cell; with no program in sight. -/
import Derived.Laws.CopyOwn
import Derived.Laws.Rows
import Derived.Laws.Tables
import Derived.Deep.MidRow
import Derived.BigFrame
import Derived.Below
import Derived.WalkKit
import Derived.Lib.Hide
namespace Go.Proofs.Ytiophmmcennjnaa
open Go.RowKit

/-- Block g is just these cells. -/
def Blk (w : World) (g : Nat) (cs : Array Value) (t : TypeId) : Prop := w.heap[g]? = some (.cells cs t (0, 0))

theorem Blk.set {w : World} {g : Nat} {cs : Array Value} {t : TypeId} (h : Blk w g cs t) (j : Nat) (u : Value) : Blk (w.setCell ⟨g, j, none⟩ u) g (cs.setIfInBounds j u) t := heap_setCell_same w g j cs t u h
theorem Blk.other {w : World} {g : Nat} {cs : Array Value} {t : TypeId} (h : Blk w g cs t) {a : Addr} (ha : a.block ≠ g) (u : Value) : Blk (w.setCell a u) g cs t := (heap_setCell_other w a g u (fun e => ha e.symm)).trans h
theorem Blk.cell {w : World} {g : Nat} {cs : Array Value} {t : TypeId} (h : Blk w g cs t) (j : Nat) : w.cell? ⟨g, j, none⟩ = cs[j]? := cell_of_row w g j cs t (0, 0) h
theorem Blk.free {w : World} {g : Nat} {cs : Array Value} {t : TypeId} (h : Blk w g cs t) (j : Nat) : w.frozen? ⟨g, j, none⟩ = false := frozen_of_row w g j cs t h
theorem Blk.lt {w : World} {g : Nat} {cs : Array Value} {t : TypeId} (h : Blk w g cs t) : g < w.heap.size := by
  rcases Nat.lt_or_ge g w.heap.size with c | c
  · exact c
  · unfold Blk at h
    rw [Array.getElem?_eq_none c] at h
    cases h
theorem Blk.below {w w' : World} {B g : Nat} {cs : Array Value} {t : TypeId} (h : Blk w g cs t) (hb : Below B w w') (hg : g < B) : Blk w' g cs t := (hb.block g hg).trans h
theorem Blk.alloc {w : World} {g : Nat} {cs : Array Value} {t : TypeId} (h : Blk w g cs t) (o : Obj) : Blk (w.alloc o) g cs t := (Below.heap_alloc w o g h.lt).trans h
theorem Blk.new (w : World) (cs : Array Value) (t : TypeId) : Blk (w.alloc (.cells cs t)) w.heap.size cs t := by
  show (w.heap.push _)[w.heap.size]? = _
  simp
theorem Blk.drew {w : World} {g : Nat} {cs : Array Value} {t : TypeId} (h : Blk w g cs t) : Blk w.drew g cs t := h
theorem Blk.row {w : World} {g : Nat} {cs : Array Value} {t : TypeId} (h : Blk w g cs t) (new : Array Value) : Blk (w.setRow g new) g new t := setRow_heap w g cs new t (0, 0) h
theorem Blk.grown {w w' : World} {g : Nat} {cs : Array Value} {t : TypeId} {r : Option Nat} (h : Blk w g cs t) (hg : w.grownBy w' r) (hr : some g ≠ r) : Blk w' g cs t := (hg.block g h.lt hr).trans h

theorem Blk.rowOther {w : World} {g k : Nat} {cs : Array Value} {t : TypeId} (h : Blk w g cs t) (hk : g ≠ k) (new : Array Value) : Blk (w.setRow k new) g cs t := (setRow_other w k g new hk).trans h

/-- Two results: a row, and a slot. -/
theorem results_row_tmp {P : Program} {fn : Func} {p u : Tmp} {ty : TypeId} (h : fn.results = #[.cell p ty, .tmp u]) (tmps : Array Value) (w : World) (g : Nat) (t : TypeId) (cs : Array Value) (v : Value) (d : TypeDesc)
    (hp : tmps.getD p undef = .pointer (some ⟨g, 0, none⟩)) (hv : tmps.getD u undef = v) (hg : Blk w g cs t)
    (hu : P.underlying ty = some d) (hd : (match d with | .struct _ | .array _ _ => true | _ => false) = true) (hi : (P.info? ty).map (·.size) = some cs.size) :
    (results fn tmps).run P w = .ok (.tuple #[.agg cs, v]) w := by
  have hp' : tmps[p]?.getD undef = .pointer (some ⟨g, 0, none⟩) := by simpa using hp
  have hv' : tmps[u]?.getD undef = v := by simpa using hv
  simp [results, h, hp', hv', asAddr, run_loadVar_row w g t ty cs (0, 0) d hg hu hd hi]

theorem run_loadVar_of {P : Program} {o : Oper} {a : Act} {w : World} (ty : TypeId) (x : Operand) (ho : o.op = .load ty x) (g : Nat) (hx : a.eval x = .pointer (some ⟨g, 0, none⟩)) (t : TypeId) (cs : Array Value) (d : TypeDesc) (hg : Blk w g cs t)
    (hu : P.underlying ty = some d) (hd : (match d with | .struct _ | .array _ _ => true | _ => false) = true) (hi : (P.info? ty).map (·.size) = some cs.size) :
    (execOp a.eval o).run P w = .ok (.value (.agg cs)) w := by
  unfold execOp
  simp only [ho, hx, Instr.loadAt, Instr.sureAddr, Sem.run_bind, Sem.run_pure, Result.andThen_ok, run_loadVar_row w g t ty cs (0, 0) d hg hu hd hi]

/-- These blocks are known whole; nothing that was there at first has turned. -/
structure Kn (w0 : World) (l : List (Nat × Array Value × TypeId)) (w : World) : Prop where
  all : ∀ x ∈ l, Blk w x.1 x.2.1 x.2.2
  below : Below w0.heap.size w0 w
section
variable {w0 w w' : World} {l l' : List (Nat × Array Value × TypeId)} {c : Nat} {a : Array Value} {t : TypeId}
theorem Kn.nil (w0 : World) : Kn w0 [] w0 := ⟨fun _ h => (by cases h), Below.refl _ _⟩
theorem Kn.at (h : Kn w0 l w) (i : Nat) {c : Nat} {a : Array Value} {t : TypeId} (e : l[i]? = some (c, a, t)) : Blk w c a t := h.all _ (List.mem_of_getElem? e)
theorem Kn.drew (h : Kn w0 l w) : Kn w0 l w.drew := ⟨fun x hx => (h.all x hx).drew, h.below.drew⟩
theorem Kn.next (h : Kn w0 l w) (hb : Below w.heap.size w w') : Kn w0 l w' := ⟨fun x hx => (h.all x hx).below hb (h.all x hx).lt, h.below.trans (hb.mono h.below.size)⟩
theorem Kn.alloc (h : Kn w0 l w) (a : Array Value) (t : TypeId) : Kn w0 ((w.heap.size, a, t) :: l) (w.alloc (.cells a t)) := by
  refine ⟨fun x hx => ?_, h.below.alloc h.below.size _⟩
  rcases List.mem_cons.1 hx with rfl | hx
  · exact Blk.new _ _ _
  · exact (h.all x hx).alloc _
theorem Kn.row (h : Kn w0 ((c, a, t) :: l) w) (hc : ∀ x ∈ l, x.1 ≠ c) (h0 : w0.heap.size ≤ c) (n : Array Value) : Kn w0 ((c, n, t) :: l) (w.setRow c n) := by
  refine ⟨fun x hx => ?_, below_setRow h.below h0 n⟩
  rcases List.mem_cons.1 hx with rfl | hx
  · exact (h.all (c, a, t) List.mem_cons_self).row n
  · exact (h.all x (List.mem_cons_of_mem _ hx)).rowOther (hc x hx) n
theorem Kn.set (h : Kn w0 ((c, a, t) :: l) w) (hc : ∀ x ∈ l, x.1 ≠ c) (h0 : w0.heap.size ≤ c) (j : Nat) (v : Value) : Kn w0 ((c, a.setIfInBounds j v, t) :: l) (w.setCell ⟨c, j, none⟩ v) := by
  refine ⟨fun x hx => ?_, h.below.setCell h0 _⟩
  rcases List.mem_cons.1 hx with rfl | hx
  · exact (h.all (c, a, t) List.mem_cons_self).set j v
  · exact (h.all x (List.mem_cons_of_mem _ hx)).other (a := ⟨c, j, none⟩) (fun e => hc x hx e.symm) v
/-- A block that is made and filled at once. -/
theorem Kn.laid (h : Kn w0 l w) (n a : Array Value) (t : TypeId) : Kn w0 ((w.heap.size, n, t) :: l) ((w.alloc (.cells a t)).setRow w.heap.size n) :=
  (h.alloc a t).row (fun x hx => Nat.ne_of_lt (h.all x hx).lt) h.below.size n
theorem Kn.sub (h : Kn w0 l w) (s : ∀ x ∈ l', x ∈ l) : Kn w0 l' w := ⟨fun x hx => h.all x (s x hx), h.below⟩
theorem Kn.fresh (h : Kn w0 l w) : ∀ x ∈ l, x.1 ≠ w.heap.size := fun x hx => Nat.ne_of_lt (h.all x hx).lt
theorem Kn.size (h : Kn w0 l w) : w0.heap.size ≤ w.heap.size := h.below.size
end

/-- An operation that yields a value, guarded or not. -/
theorem wpList_val {P : Program} {ops : Array Oper} {Q : Exit → Act → World → Prop} {a : Act} {w : World} {rest : List Oper} {o : Oper} (v : Value) (hw : Region.wanted o (yielded ops a.tmps) = true)
    (hrun : (execOp a.eval o).run P w = .ok (.value v) w) (h : wpList P ops Q rest (a.put o.dst v) w) : wpList P ops Q (o :: rest) a w :=
  BigFrame.wpList_want hw fun K hK => by unfold Oper.wp; simp only [hrun]; exact hK _ _ h

/-- A part of a row. -/
theorem run_loadPart_of {P : Program} {o : Oper} {a : Act} {w : World} (ty : TypeId) (x : Operand) (ho : o.op = .load ty x) (g j : Nat) (hx : a.eval x = .pointer (some ⟨g, j, none⟩)) (t : TypeId) (cs : Array Value) (part : List Value) (d : TypeDesc) (hg : Blk w g cs t)
    (hp : ∀ i v, part[i]? = some v → cs[j + i]? = some v)
    (hu : P.underlying ty = some d) (hd : d.isRow = true) (hi : (P.info? ty).map (·.size) = some part.length) :
    (execOp a.eval o).run P w = .ok (.value (.agg part.toArray)) w := by
  unfold execOp
  have hr : w.rangeAt g j part := fun i v hv => by rw [hg.cell]; exact hp i v hv
  simp only [ho, hx, Instr.loadAt, Instr.sureAddr, Sem.run_bind, Sem.run_pure, Result.andThen_ok, run_loadVar_mid w g j ty part d hr hu hd hi]
/-- A store of one cell. -/
theorem wp_store_cell {P : Program} {o : Oper} {a : Act} {w : World} {K : Act → World → Prop} {Q : Exit → Act → World → Prop} (ty : TypeId) (x y : Operand) (ho : o.op = .store ty x y)
    (p : Addr) (v : Value) (hx : a.eval x = .pointer (some p)) (hy : a.eval y = v) (hrun : (Instr.storeAt ty (.pointer (some p)) v).run P w = .ok () (w.setCell p v))
    (h : K (a.put o.dst undef) (w.setCell p v)) : o.wp P a w K Q := by
  unfold Oper.wp execOp
  simp only [ho, hx, hy, Sem.run_bind, Sem.run_pure, hrun, Result.andThen_ok]
  exact h

end Go.Proofs.Ytiophmmcennjnaa
