/- VectorLine: three vectors told at once, in whatever order the places for them are made. -/
import Derived.Test.YtkohnleeiajiiaaBetter
import Derived.Test.YtkohnleeiajiiaaInv
import Derived.Deep.DeepCutAuto
namespace Go.Proofs.Ytkohnleeiajiiaa
open Go.RowKit
set_option linter.unusedSimpArgs false
set_option linter.unusedVariables false

/-- A place made since, and, once it is written, the vector in it. -/
def PtrAt (B : Nat) (w : World) (v : Value) (done : Bool) (x : Vc) : Prop := ∃ c cs, v = .pointer (some ⟨c, 0, none⟩) ∧ B ≤ c ∧ cs.size = 4 ∧ Blk w c cs 60 ∧ (done = true → cs = vcA x)

theorem PtrAt.below {B : Nat} {w w' : World} {v : Value} {done : Bool} {x : Vc} (h : PtrAt B w v done x) (hb : Below w.heap.size w w') : PtrAt B w' v done x := by
  obtain ⟨c, cs, e, hB, hz, hk, hd⟩ := h
  exact ⟨c, cs, e, hB, hz, hk.below hb hk.lt, hd⟩
theorem PtrAt.rowOther {B c : Nat} {w : World} {v : Value} {done : Bool} {x : Vc} (h : PtrAt B w v done x) (hc : v ≠ .pointer (some ⟨c, 0, none⟩)) {n : Array Value} : PtrAt B (w.setRow c n) v done x := by
  obtain ⟨k, cs, e, hB, hz, hk, hd⟩ := h
  exact ⟨k, cs, e, hB, hz, hk.rowOther (fun e2 => hc (by rw [e, e2])) n, hd⟩
theorem PtrAt.old {B : Nat} {w : World} {v : Value} {done : Bool} {x : Vc} (h : PtrAt B w v done x) : v ≠ .pointer (some ⟨w.heap.size, 0, none⟩) := by
  obtain ⟨k, cs, rfl, hB, hz, hk, hd⟩ := h
  intro e
  have := hk.lt
  simp at e

/-- What holds at the start. -/
structure LnB (w0 : World) (g0 g1 g2 : Nat) (x y z : Vc) (w : World) : Prop where
  below : Below w0.heap.size w0 w
  kx : VcAt w g0 0 x
  ky : VcAt w g1 0 y
  kz : VcAt w g2 0 z
  l0 : g0 < w.heap.size
  l1 : g1 < w.heap.size
  l2 : g2 < w.heap.size

theorem LnB.next {w0 w w' : World} {g0 g1 g2 : Nat} {x y z : Vc} (q : LnB w0 g0 g1 g2 x y z w) (hb : Below w.heap.size w w') : LnB w0 g0 g1 g2 x y z w' :=
  ⟨q.below.trans (hb.mono q.below.size), q.kx.below hb q.l0, q.ky.below hb q.l1, q.kz.below hb q.l2, Nat.lt_of_lt_of_le q.l0 hb.size, Nat.lt_of_lt_of_le q.l1 hb.size, Nat.lt_of_lt_of_le q.l2 hb.size⟩
theorem LnB.drew {w0 w : World} {g0 g1 g2 : Nat} {x y z : Vc} (q : LnB w0 g0 g1 g2 x y z w) : LnB w0 g0 g1 g2 x y z w.drew :=
  ⟨q.below.drew, q.kx.drew, q.ky.drew, q.kz.drew, q.l0, q.l1, q.l2⟩

/-- The world, while it goes on. -/
structure LnW (w0 w1 : World) (g0 g1 g2 : Nat) (x y z : Vc) (l6 l7 l8 l9 l10 l11 : Bool) (v7 v8 v9 : Value) (w : World) : Prop where
  start : LnB w0 g0 g1 g2 x y z w1
  from1 : Below w1.heap.size w1 w
  p7 : l6 = true → PtrAt w1.heap.size w v7 l9 x
  p8 : l7 = true → PtrAt w1.heap.size w v8 l10 y
  p9 : l8 = true → PtrAt w1.heap.size w v9 l11 z
  d78 : l6 = true → l7 = true → v7 ≠ v8
  d79 : l6 = true → l8 = true → v7 ≠ v9
  d89 : l7 = true → l8 = true → v8 ≠ v9
  o7 : l9 = true → l6 = true
  o8 : l10 = true → l7 = true
  o9 : l11 = true → l8 = true

section
variable {w0 w1 w w' : World} {g0 g1 g2 : Nat} {x y z : Vc} {l6 l7 l8 l9 l10 l11 : Bool} {v7 v8 v9 : Value}
theorem LnW.at (h : LnW w0 w1 g0 g1 g2 x y z l6 l7 l8 l9 l10 l11 v7 v8 v9 w) : LnB w0 g0 g1 g2 x y z w := h.start.next h.from1
theorem LnW.kx (h : LnW w0 w1 g0 g1 g2 x y z l6 l7 l8 l9 l10 l11 v7 v8 v9 w) : VcAt w g0 0 x := h.at.kx
theorem LnW.ky (h : LnW w0 w1 g0 g1 g2 x y z l6 l7 l8 l9 l10 l11 v7 v8 v9 w) : VcAt w g1 0 y := h.at.ky
theorem LnW.kz (h : LnW w0 w1 g0 g1 g2 x y z l6 l7 l8 l9 l10 l11 v7 v8 v9 w) : VcAt w g2 0 z := h.at.kz
theorem LnW.call (h : LnW w0 w1 g0 g1 g2 x y z l6 l7 l8 l9 l10 l11 v7 v8 v9 w) (hb : Below w.heap.size w w') : LnW w0 w1 g0 g1 g2 x y z l6 l7 l8 l9 l10 l11 v7 v8 v9 w' :=
  ⟨h.start, h.from1.trans (hb.mono h.from1.size), fun hu => (h.p7 hu).below hb, fun hu => (h.p8 hu).below hb, fun hu => (h.p9 hu).below hb, h.d78, h.d79, h.d89, h.o7, h.o8, h.o9⟩
end

theorem LnW.alloc7 {w0 w1 w : World} {g0 g1 g2 : Nat} {x y z : Vc} {l6 l7 l8 l9 l10 l11 : Bool} {v7 v8 v9 : Value} (h : LnW w0 w1 g0 g1 g2 x y z l6 l7 l8 l9 l10 l11 v7 v8 v9 w) (hl : l6 = false) :
    LnW w0 w1 g0 g1 g2 x y z true l7 l8 l9 l10 l11 (.pointer (some ⟨w.heap.size, 0, none⟩)) v8 v9 (w.alloc (.cells nil4 60)) :=
  ⟨h.start, h.from1.alloc h.from1.size _, fun _ => ⟨w.heap.size, nil4, rfl, h.from1.size, rfl, Blk.new w nil4 60, fun hd => by rw [h.o7 hd] at hl; cases hl⟩, fun hu => (h.p8 hu).below ((Below.refl _ _).alloc (Nat.le_refl _) _), fun hu => (h.p9 hu).below ((Below.refl _ _).alloc (Nat.le_refl _) _), fun _ hu => fun e => (h.p8 hu).old e.symm, fun _ hu => fun e => (h.p9 hu).old e.symm, h.d89, fun _ => rfl, h.o8, h.o9⟩

theorem LnW.store7 {w0 w1 w : World} {g0 g1 g2 : Nat} {x y z : Vc} {l6 l7 l8 l9 l10 l11 : Bool} {c : Nat} {cs : Array Value} {v8 v9 : Value} (h : LnW w0 w1 g0 g1 g2 x y z l6 l7 l8 l9 l10 l11 (.pointer (some ⟨c, 0, none⟩)) v8 v9 w) (ha : l6 = true) (hk : Blk w c cs 60) (hc : w1.heap.size ≤ c) :
    LnW w0 w1 g0 g1 g2 x y z l6 l7 l8 true l10 l11 (.pointer (some ⟨c, 0, none⟩)) v8 v9 (w.setRow c (vcA x)) :=
  ⟨h.start, below_setRow h.from1 hc _, fun _ => ⟨c, vcA x, rfl, hc, rfl, hk.row _, fun _ => rfl⟩, fun hu => (h.p8 hu).rowOther (fun e => h.d78 ha hu e.symm), fun hu => (h.p9 hu).rowOther (fun e => h.d79 ha hu e.symm), h.d78, h.d79, h.d89, fun _ => ha, h.o8, h.o9⟩

theorem LnW.alloc8 {w0 w1 w : World} {g0 g1 g2 : Nat} {x y z : Vc} {l6 l7 l8 l9 l10 l11 : Bool} {v7 v8 v9 : Value} (h : LnW w0 w1 g0 g1 g2 x y z l6 l7 l8 l9 l10 l11 v7 v8 v9 w) (hl : l7 = false) :
    LnW w0 w1 g0 g1 g2 x y z l6 true l8 l9 l10 l11 v7 (.pointer (some ⟨w.heap.size, 0, none⟩)) v9 (w.alloc (.cells nil4 60)) :=
  ⟨h.start, h.from1.alloc h.from1.size _, fun hu => (h.p7 hu).below ((Below.refl _ _).alloc (Nat.le_refl _) _), fun _ => ⟨w.heap.size, nil4, rfl, h.from1.size, rfl, Blk.new w nil4 60, fun hd => by rw [h.o8 hd] at hl; cases hl⟩, fun hu => (h.p9 hu).below ((Below.refl _ _).alloc (Nat.le_refl _) _), fun hu _ => fun e => (h.p7 hu).old e, h.d79, fun _ hu => fun e => (h.p9 hu).old e.symm, h.o7, fun _ => rfl, h.o9⟩

theorem LnW.store8 {w0 w1 w : World} {g0 g1 g2 : Nat} {x y z : Vc} {l6 l7 l8 l9 l10 l11 : Bool} {c : Nat} {cs : Array Value} {v7 v9 : Value} (h : LnW w0 w1 g0 g1 g2 x y z l6 l7 l8 l9 l10 l11 v7 (.pointer (some ⟨c, 0, none⟩)) v9 w) (ha : l7 = true) (hk : Blk w c cs 60) (hc : w1.heap.size ≤ c) :
    LnW w0 w1 g0 g1 g2 x y z l6 l7 l8 l9 true l11 v7 (.pointer (some ⟨c, 0, none⟩)) v9 (w.setRow c (vcA y)) :=
  ⟨h.start, below_setRow h.from1 hc _, fun hu => (h.p7 hu).rowOther (fun e => h.d78 hu ha e), fun _ => ⟨c, vcA y, rfl, hc, rfl, hk.row _, fun _ => rfl⟩, fun hu => (h.p9 hu).rowOther (fun e => h.d89 ha hu e.symm), h.d78, h.d79, h.d89, h.o7, fun _ => ha, h.o9⟩

theorem LnW.alloc9 {w0 w1 w : World} {g0 g1 g2 : Nat} {x y z : Vc} {l6 l7 l8 l9 l10 l11 : Bool} {v7 v8 v9 : Value} (h : LnW w0 w1 g0 g1 g2 x y z l6 l7 l8 l9 l10 l11 v7 v8 v9 w) (hl : l8 = false) :
    LnW w0 w1 g0 g1 g2 x y z l6 l7 true l9 l10 l11 v7 v8 (.pointer (some ⟨w.heap.size, 0, none⟩)) (w.alloc (.cells nil4 60)) :=
  ⟨h.start, h.from1.alloc h.from1.size _, fun hu => (h.p7 hu).below ((Below.refl _ _).alloc (Nat.le_refl _) _), fun hu => (h.p8 hu).below ((Below.refl _ _).alloc (Nat.le_refl _) _), fun _ => ⟨w.heap.size, nil4, rfl, h.from1.size, rfl, Blk.new w nil4 60, fun hd => by rw [h.o9 hd] at hl; cases hl⟩, h.d78, fun hu _ => fun e => (h.p7 hu).old e, fun hu _ => fun e => (h.p8 hu).old e, h.o7, h.o8, fun _ => rfl⟩

theorem LnW.store9 {w0 w1 w : World} {g0 g1 g2 : Nat} {x y z : Vc} {l6 l7 l8 l9 l10 l11 : Bool} {c : Nat} {cs : Array Value} {v7 v8 : Value} (h : LnW w0 w1 g0 g1 g2 x y z l6 l7 l8 l9 l10 l11 v7 v8 (.pointer (some ⟨c, 0, none⟩)) w) (ha : l8 = true) (hk : Blk w c cs 60) (hc : w1.heap.size ≤ c) :
    LnW w0 w1 g0 g1 g2 x y z l6 l7 l8 l9 l10 true v7 v8 (.pointer (some ⟨c, 0, none⟩)) (w.setRow c (vcA z)) :=
  ⟨h.start, below_setRow h.from1 hc _, fun hu => (h.p7 hu).rowOther (fun e => h.d79 hu ha e), fun hu => (h.p8 hu).rowOther (fun e => h.d89 hu ha e), fun _ => ⟨c, vcA z, rfl, hc, rfl, hk.row _, fun _ => rfl⟩, h.d78, h.d79, h.d89, h.o7, h.o8, fun _ => ha⟩

/-- The slots, while it goes on. -/
structure LnS (x y z : Vc) (L : Nat → Bool) (v14 v15 v16 v17 v18 v19 : Value) : Prop where
  e14 : L 0 = true → v14 = vcV x
  e15 : L 1 = true → v15 = vcV x
  e16 : L 2 = true → v16 = vcV y
  e17 : L 3 = true → v17 = vcV y
  e18 : L 4 = true → v18 = vcV z
  e19 : L 5 = true → v19 = vcV z

/-- The frame. -/
abbrev lnF (x y z : Vc) (g0 g1 g2 : Nat) (v7 v8 v9 v14 v15 v16 v17 v18 v19 : Value) : Act := { tmps := #[vcV x, vcV y, vcV z, .pointer (some ⟨g0, 0, none⟩), .pointer (some ⟨g1, 0, none⟩), .pointer (some ⟨g2, 0, none⟩), .bool false, v7, v8, v9, undef, undef, .bool true, .bool false, v14, v15, v16, v17, v18, v19, undef, undef, undef, undef, undef, undef, undef, undef, undef, undef, undef, undef, undef, undef, undef, undef, undef, undef, undef, undef, undef, undef, undef, undef, undef, undef, undef, undef, undef, undef, undef, undef, undef, undef, undef, undef, undef, undef, undef, undef, undef, undef, undef, undef, undef, undef, undef, undef, undef, undef, undef, undef, undef, undef, undef, undef, undef, undef, undef, undef, undef], defers := [] }

def LnI (w0 w1 : World) (g0 g1 g2 : Nat) (x y z : Vc) (L : Nat → Bool) (a : Act) (w : World) : Prop :=
  ∃ v7 v8 v9 v14 v15 v16 v17 v18 v19, a = lnF x y z g0 g1 g2 v7 v8 v9 v14 v15 v16 v17 v18 v19 ∧ LnS x y z L v14 v15 v16 v17 v18 v19 ∧ LnW w0 w1 g0 g1 g2 x y z (L 6) (L 7) (L 8) (L 9) (L 10) (L 11) v7 v8 v9 w

/-- The three, told. -/
def LnE (w0 : World) (x y z : Vc) (v7 v8 v9 : Value) (w : World) : Prop := ∃ c d e, v7 = .pointer (some ⟨c, 0, none⟩) ∧ v8 = .pointer (some ⟨d, 0, none⟩) ∧ v9 = .pointer (some ⟨e, 0, none⟩) ∧ LnB w0 c d e x y z w

theorem VcAt.of_blk {w : World} {c : Nat} {x : Vc} {t : TypeId} (h : Blk w c (vcA x) t) : VcAt w c 0 x := ⟨h.cell 0, h.cell 1, h.cell 2, h.cell 3⟩
end Go.Proofs.Ytkohnleeiajiiaa
