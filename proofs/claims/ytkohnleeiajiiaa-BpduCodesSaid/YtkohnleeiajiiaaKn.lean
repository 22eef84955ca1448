/- Blocks that are known whole, as a list; and loads of rows and parts of rows, guarded or not. -/
import Derived.Test.YtkohnleeiajiiaaFEq
import Derived.Deep.MidRow
import Derived.BigFrame
namespace Go.Proofs.Ytkohnleeiajiiaa
open Go.RowKit

/-- These blocks are known whole; nothing that was there at first has turned. -/
structure Kn (w0 : World) (l : List (Nat × Array Value × TypeId)) (w : World) : Prop where
  all : ∀ x ∈ l, Blk w x.1 x.2.1 x.2.2
  below : Below w0.heap.size w0 w
section
variable {w0 w w' : World} {l l' : List (Nat × Array Value × TypeId)} {c : Nat} {a : Array Value} {t : TypeId}
theorem Kn.nil (w0 : World) : Kn w0 [] w0 := ⟨fun _ h => (by cases h), Below.refl _ _⟩
theorem Kn.at (h : Kn w0 l w) (i : Nat) {c : Nat} {a : Array Value} {t : TypeId} (e : l[i]? = some (c, a, t)) : Blk w c a t := h.all _ (List.mem_of_getElem? e)
theorem Kn.drew (h : Kn w0 l w) : Kn w0 l w.drew := ⟨fun x hx => (h.all x hx).drew, h.below.drew⟩
theorem Kn.next (h : Kn w0 l w) (hb : Below w.heap.size w w') : Kn w0 l w' := ⟨fun x hx => (h.all x hx).below hb (h.all x hx).lt, h.below.trans (hb.mono h.below.size)⟩
theorem Kn.alloc (h : Kn w0 l w) (a : Array Value) (t : TypeId) : Kn w0 ((w.heap.size, a, t) :: l) (w.alloc (.cells a t)) := by
  refine ⟨fun x hx => ?_, h.below.alloc h.below.size _⟩
  rcases List.mem_cons.1 hx with rfl | hx
  · exact Blk.new _ _ _
  · exact (h.all x hx).alloc _
theorem Kn.row (h : Kn w0 ((c, a, t) :: l) w) (hc : ∀ x ∈ l, x.1 ≠ c) (h0 : w0.heap.size ≤ c) (n : Array Value) : Kn w0 ((c, n, t) :: l) (w.setRow c n) := by
  refine ⟨fun x hx => ?_, below_setRow h.below h0 n⟩
  rcases List.mem_cons.1 hx with rfl | hx
  · exact (h.all (c, a, t) List.mem_cons_self).row n
  · exact (h.all x (List.mem_cons_of_mem _ hx)).rowOther (hc x hx) n
theorem Kn.set (h : Kn w0 ((c, a, t) :: l) w) (hc : ∀ x ∈ l, x.1 ≠ c) (h0 : w0.heap.size ≤ c) (j : Nat) (v : Value) : Kn w0 ((c, a.setIfInBounds j v, t) :: l) (w.setCell ⟨c, j, none⟩ v) := by
  refine ⟨fun x hx => ?_, h.below.setCell h0 _⟩
  rcases List.mem_cons.1 hx with rfl | hx
  · exact (h.all (c, a, t) List.mem_cons_self).set j v
  · exact (h.all x (List.mem_cons_of_mem _ hx)).other (a := ⟨c, j, none⟩) (fun e => hc x hx e.symm) v
/-- A block that is made and filled at once. -/
theorem Kn.laid (h : Kn w0 l w) (n a : Array Value) (t : TypeId) : Kn w0 ((w.heap.size, n, t) :: l) ((w.alloc (.cells a t)).setRow w.heap.size n) :=
  (h.alloc a t).row (fun x hx => Nat.ne_of_lt (h.all x hx).lt) h.below.size n
theorem Kn.sub (h : Kn w0 l w) (s : ∀ x ∈ l', x ∈ l) : Kn w0 l' w := ⟨fun x hx => h.all x (s x hx), h.below⟩
theorem Kn.fresh (h : Kn w0 l w) : ∀ x ∈ l, x.1 ≠ w.heap.size := fun x hx => Nat.ne_of_lt (h.all x hx).lt
theorem Kn.size (h : Kn w0 l w) : w0.heap.size ≤ w.heap.size := h.below.size
end

/-- An operation that yields a value, guarded or not. -/
theorem wpList_val {P : Program} {ops : Array Oper} {Q : Exit → Act → World → Prop} {a : Act} {w : World} {rest : List Oper} {o : Oper} (v : Value) (hw : Region.wanted o (yielded ops a.tmps) = true)
    (hrun : (execOp a.eval o).run P w = .ok (.value v) w) (h : wpList P ops Q rest (a.put o.dst v) w) : wpList P ops Q (o :: rest) a w :=
  BigFrame.wpList_want hw fun K hK => by unfold Oper.wp; simp only [hrun]; exact hK _ _ h

/-- A part of a row. -/
theorem run_loadPart_of {P : Program} {o : Oper} {a : Act} {w : World} (ty : TypeId) (x : Operand) (ho : o.op = .load ty x) (g j : Nat) (hx : a.eval x = .pointer (some ⟨g, j, none⟩)) (t : TypeId) (cs : Array Value) (part : List Value) (d : TypeDesc) (hg : Blk w g cs t)
    (hp : ∀ i v, part[i]? = some v → cs[j + i]? = some v)
    (hu : P.underlying ty = some d) (hd : d.isRow = true) (hi : (P.info? ty).map (·.size) = some part.length) :
    (execOp a.eval o).run P w = .ok (.value (.agg part.toArray)) w := by
  unfold execOp
  have hr : w.rangeAt g j part := fun i v hv => by rw [hg.cell]; exact hp i v hv
  simp only [ho, hx, Instr.loadAt, Instr.sureAddr, Sem.run_bind, Sem.run_pure, Result.andThen_ok, run_loadVar_mid w g j ty part d hr hu hd hi]
end Go.Proofs.Ytkohnleeiajiiaa
