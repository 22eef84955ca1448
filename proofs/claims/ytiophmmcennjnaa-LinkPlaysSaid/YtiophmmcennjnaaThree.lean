/- Up to three rows that are made and filled in one region, in whatever order; with no program in sight. -/
import Derived.Test.YtiophmmcennjnaaBks
import Derived.Test.YtiophmmcennjnaaInv
namespace Go.Proofs.Ytiophmmcennjnaa
open Go.RowKit
set_option linter.unusedVariables false

/-- A place made since, and, once it is written, the row in it. -/
def PtrAt (B : Nat) (t : TypeId) (n : Nat) (w : World) (v : Value) (done : Bool) (x : Array Value) : Prop := ∃ c cs, v = .pointer (some ⟨c, 0, none⟩) ∧ B ≤ c ∧ cs.size = n ∧ Blk w c cs t ∧ (done = true → cs = x)
section
variable {B n : Nat} {t : TypeId} {w w' : World} {v : Value} {done : Bool} {x : Array Value}
theorem PtrAt.below (h : PtrAt B t n w v done x) (hb : Below w.heap.size w w') : PtrAt B t n w' v done x := by
  obtain ⟨c, cs, e, hB, hz, hk, hd⟩ := h
  exact ⟨c, cs, e, hB, hz, hk.below hb hk.lt, hd⟩
theorem PtrAt.rowOther {c : Nat} (h : PtrAt B t n w v done x) (hc : v ≠ .pointer (some ⟨c, 0, none⟩)) {m : Array Value} : PtrAt B t n (w.setRow c m) v done x := by
  obtain ⟨k, cs, e, hB, hz, hk, hd⟩ := h
  exact ⟨k, cs, e, hB, hz, hk.rowOther (fun e2 => hc (by rw [e, e2])) m, hd⟩
theorem PtrAt.old (h : PtrAt B t n w v done x) : v ≠ .pointer (some ⟨w.heap.size, 0, none⟩) := by
  obtain ⟨k, cs, rfl, hB, hz, hk, hd⟩ := h
  intro e
  have := hk.lt
  simp at e
end

/-- The world, while it goes on. The bits: the three are made, the three are filled. -/
structure W3 (w1 : World) (t : TypeId) (n : Nat) (x y z : Array Value) (a b c p q r : Bool) (v7 v8 v9 : Value) (w : World) : Prop where
  from1 : Below w1.heap.size w1 w
  p7 : a = true → PtrAt w1.heap.size t n w v7 p x
  p8 : b = true → PtrAt w1.heap.size t n w v8 q y
  p9 : c = true → PtrAt w1.heap.size t n w v9 r z
  d78 : a = true → b = true → v7 ≠ v8
  d79 : a = true → c = true → v7 ≠ v9
  d89 : b = true → c = true → v8 ≠ v9
  o7 : p = true → a = true
  o8 : q = true → b = true
  o9 : r = true → c = true
section
variable {w1 w w' : World} {t : TypeId} {n : Nat} {x y z nil : Array Value} {a b c p q r : Bool} {v7 v8 v9 : Value} {g : Nat} {cs : Array Value}
theorem W3.start (w : World) : W3 w t n x y z false false false false false false v7 v8 v9 w.drew :=
  ⟨(Below.refl _ _).drew, (fun h => Bool.noConfusion h), (fun h => Bool.noConfusion h), (fun h => Bool.noConfusion h), (fun h => Bool.noConfusion h), (fun h => Bool.noConfusion h), (fun h => Bool.noConfusion h), (fun h => Bool.noConfusion h), (fun h => Bool.noConfusion h), (fun h => Bool.noConfusion h)⟩
theorem W3.next (h : W3 w1 t n x y z a b c p q r v7 v8 v9 w) (hb : Below w.heap.size w w') : W3 w1 t n x y z a b c p q r v7 v8 v9 w' :=
  ⟨h.from1.trans (hb.mono h.from1.size), fun hu => (h.p7 hu).below hb, fun hu => (h.p8 hu).below hb, fun hu => (h.p9 hu).below hb, h.d78, h.d79, h.d89, h.o7, h.o8, h.o9⟩
theorem W3.alloc7 (h : W3 w1 t n x y z a b c p q r v7 v8 v9 w) (hn : nil.size = n) (hl : a = false) : W3 w1 t n x y z true b c p q r (.pointer (some ⟨w.heap.size, 0, none⟩)) v8 v9 (w.alloc (.cells nil t)) :=
  ⟨h.from1.alloc h.from1.size _, fun _ => ⟨w.heap.size, nil, rfl, h.from1.size, hn, Blk.new w nil t, fun hd => by rw [h.o7 hd] at hl; cases hl⟩, fun hu => (h.p8 hu).below ((Below.refl _ _).alloc (Nat.le_refl _) _), fun hu => (h.p9 hu).below ((Below.refl _ _).alloc (Nat.le_refl _) _), fun _ hu => fun e => (h.p8 hu).old e.symm, fun _ hu => fun e => (h.p9 hu).old e.symm, h.d89, fun _ => rfl, h.o8, h.o9⟩
theorem W3.store7 (h : W3 w1 t n x y z a b c p q r (.pointer (some ⟨g, 0, none⟩)) v8 v9 w) (ha : a = true) (hx : x.size = n) (hk : Blk w g cs t) (hc : w1.heap.size ≤ g) : W3 w1 t n x y z a b c true q r (.pointer (some ⟨g, 0, none⟩)) v8 v9 (w.setRow g x) :=
  ⟨below_setRow h.from1 hc _, fun _ => ⟨g, x, rfl, hc, hx, hk.row _, fun _ => rfl⟩, fun hu => (h.p8 hu).rowOther (fun e => h.d78 ha hu e.symm), fun hu => (h.p9 hu).rowOther (fun e => h.d79 ha hu e.symm), h.d78, h.d79, h.d89, fun _ => ha, h.o8, h.o9⟩
theorem W3.alloc8 (h : W3 w1 t n x y z a b c p q r v7 v8 v9 w) (hn : nil.size = n) (hl : b = false) : W3 w1 t n x y z a true c p q r v7 (.pointer (some ⟨w.heap.size, 0, none⟩)) v9 (w.alloc (.cells nil t)) :=
  ⟨h.from1.alloc h.from1.size _, fun hu => (h.p7 hu).below ((Below.refl _ _).alloc (Nat.le_refl _) _), fun _ => ⟨w.heap.size, nil, rfl, h.from1.size, hn, Blk.new w nil t, fun hd => by rw [h.o8 hd] at hl; cases hl⟩, fun hu => (h.p9 hu).below ((Below.refl _ _).alloc (Nat.le_refl _) _), fun hu _ => fun e => (h.p7 hu).old e, h.d79, fun _ hu => fun e => (h.p9 hu).old e.symm, h.o7, fun _ => rfl, h.o9⟩
theorem W3.store8 (h : W3 w1 t n x y z a b c p q r v7 (.pointer (some ⟨g, 0, none⟩)) v9 w) (ha : b = true) (hy : y.size = n) (hk : Blk w g cs t) (hc : w1.heap.size ≤ g) : W3 w1 t n x y z a b c p true r v7 (.pointer (some ⟨g, 0, none⟩)) v9 (w.setRow g y) :=
  ⟨below_setRow h.from1 hc _, fun hu => (h.p7 hu).rowOther (fun e => h.d78 hu ha e), fun _ => ⟨g, y, rfl, hc, hy, hk.row _, fun _ => rfl⟩, fun hu => (h.p9 hu).rowOther (fun e => h.d89 ha hu e.symm), h.d78, h.d79, h.d89, h.o7, fun _ => ha, h.o9⟩
theorem W3.alloc9 (h : W3 w1 t n x y z a b c p q r v7 v8 v9 w) (hn : nil.size = n) (hl : c = false) : W3 w1 t n x y z a b true p q r v7 v8 (.pointer (some ⟨w.heap.size, 0, none⟩)) (w.alloc (.cells nil t)) :=
  ⟨h.from1.alloc h.from1.size _, fun hu => (h.p7 hu).below ((Below.refl _ _).alloc (Nat.le_refl _) _), fun hu => (h.p8 hu).below ((Below.refl _ _).alloc (Nat.le_refl _) _), fun _ => ⟨w.heap.size, nil, rfl, h.from1.size, hn, Blk.new w nil t, fun hd => by rw [h.o9 hd] at hl; cases hl⟩, h.d78, fun hu _ => fun e => (h.p7 hu).old e, fun hu _ => fun e => (h.p8 hu).old e, h.o7, h.o8, fun _ => rfl⟩
theorem W3.store9 (h : W3 w1 t n x y z a b c p q r v7 v8 (.pointer (some ⟨g, 0, none⟩)) w) (ha : c = true) (hz : z.size = n) (hk : Blk w g cs t) (hc : w1.heap.size ≤ g) : W3 w1 t n x y z a b c p q true v7 v8 (.pointer (some ⟨g, 0, none⟩)) (w.setRow g z) :=
  ⟨below_setRow h.from1 hc _, fun hu => (h.p7 hu).rowOther (fun e => h.d79 hu ha e), fun hu => (h.p8 hu).rowOther (fun e => h.d89 hu ha e), fun _ => ⟨g, z, rfl, hc, hz, hk.row _, fun _ => rfl⟩, h.d78, h.d79, h.d89, h.o7, h.o8, fun _ => ha⟩
end
end Go.Proofs.Ytiophmmcennjnaa
