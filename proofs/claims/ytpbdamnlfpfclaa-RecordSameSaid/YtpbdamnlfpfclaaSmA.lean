/- RecordSame: what stays; a cell that changes. -/
import Derived.Test.YtpbdamnlfpfclaaClA
namespace Go.Proofs.Ytpbdamnlfpfclaa
open Go.RowKit
attribute [local irreducible] wpQuiet
set_option linter.unusedSimpArgs false
set_option linter.unusedVariables false

/-- One cell of one element is stored. -/
theorem cells_set {α : Type} {enc : α → List Value} {size : Nat} (henc : ∀ x, (enc x).length = size) (j : Nat) (hj : j < size) (u : Value) (x' : α) : ∀ (l : List α) (k : Nat) (x : α), l[k]? = some x → enc x' = (enc x).set j u → (cellsL enc l).set (k * size + j) u = cellsL enc (l.set k x')
  | [], k, x, h, _ => by simp at h
  | y :: l, 0, x, h, he => by
    simp only [List.getElem?_cons_zero, Option.some.injEq] at h
    subst h
    rw [cellsL_cons, Nat.zero_mul, Nat.zero_add, List.set_append_left _ _ (by rw [henc]; exact hj), ← he]
    rfl
  | y :: l, k + 1, x, h, he => by
    have e : (k + 1) * size + j = size + (k * size + j) := by rw [Nat.succ_mul]; omega
    rw [cellsL_cons, e, List.set_append_right _ _ (by rw [henc]; omega), henc, Nat.add_sub_cancel_left, cells_set henc j hj u x' l k x (by simpa using h) he]
    rfl
theorem Own.setOne {α : Type} {enc : α → List Value} {size g cap n B j : Nat} {w : World} {e : TypeId} {l : List α} (henc : ∀ x, (enc x).length = size) (h : Own w B e size enc (.slice (some ⟨g, 0, none⟩) n cap) l) (hn : n = l.length) (k : Nat) (x x' : α) (u : Value)
    (hx : l[k]? = some x) (hj : j < size) (he : enc x' = (enc x).set j u) : Own (w.setCell ⟨g, k * size + j, none⟩ u) B e size enc (.slice (some ⟨g, 0, none⟩) n cap) (l.set k x') := by
  subst hn
  obtain ⟨h1, -⟩ := World.ownsRow.stored h (k * size + j) u
  rw [cells_set henc j hj u x' l k x hx he] at h1
  unfold Own
  rw [List.length_set]
  exact h1
/-- What stays as it is, whatever the world. -/
structure SmH (w0 : World) (x A7 : Array Value) (g p7 p9 kk : Nat) (t : St) (v1 v2 v3 v4 : Value) (z1 : Option Addr) (n1 c1 : Nat) (z2 : Option Addr) (n2 c2 : Nat) (z3 : Option Addr) (n3 c3 : Nat) (z4 : Option Addr) (n4 c4 : Nat) : Prop where
  small : kk < 256
  xi : (Try.prog.info? 30).map (·.size) = some x.size
  q7 : A7 = stA t v1 v2 v3 v4
  l1 : n1 = t.po.length
  l2 : n2 = t.vl.length
  l3 : n3 = t.st.length
  l4 : n4 = t.fd.length
  few : n1 ≤ 100 ∧ n2 ≤ 100 ∧ n3 ≤ 100 ∧ n4 ≤ 100
  ap : Apart (.slice z1 n1 c1) (.slice z2 n2 c2) (.slice z3 n3 c3) (.slice z4 n4 c4)
  away : ∀ k, ((Value.slice z1 n1 c1).ownBlock = some k ∨ (Value.slice z2 n2 c2).ownBlock = some k ∨ (Value.slice z3 n3 c3).ownBlock = some k ∨ (Value.slice z4 n4 c4).ownBlock = some k) → w0.heap.size ≤ k ∧ k ≠ g ∧ k ≠ p7 ∧ k ≠ p9 ∧ v1.ownBlock ≠ some k ∧ v2.ownBlock ≠ some k ∧ v3.ownBlock ≠ some k ∧ v4.ownBlock ≠ some k
  made : ∀ W, Below w0.heap.size w0 W → Calls Try.prog 6 #[.agg x] W fun e w' => ∃ v, e = .returned v ∧ (IsSt w' t v ∧ Below W.heap.size W w')
/-- The world, once the clone is made; tC: what the clone is. -/
structure S41 (w0 : World) (x A7 A9 : Array Value) (g p7 p9 : Nat) (t : St) (v1 v2 v3 v4 : Value) (z1 : Option Addr) (n1 c1 : Nat) (z2 : Option Addr) (n2 c2 : Nat) (z3 : Option Addr) (n3 c3 : Nat) (z4 : Option Addr) (n4 c4 : Nat) (tC : St) (w : World) : Prop where
  below : Below w0.heap.size w0 w
  ki : Blk w g x 30
  k7 : Blk w p7 A7 41
  k9 : Blk w p9 A9 41
  o7 : OwS w 0 t v1 v2 v3 v4
  q9 : A9 = stA tC (.slice z1 n1 c1) (.slice z2 n2 c2) (.slice z3 n3 c3) (.slice z4 n4 c4)
  o9 : OwS w 0 tC (.slice z1 n1 c1) (.slice z2 n2 c2) (.slice z3 n3 c3) (.slice z4 n4 c4)
section
variable {w0 : World} {x A7 A9 : Array Value} {g p7 p9 kk : Nat} {t tC : St} {v1 v2 v3 v4 : Value} {z1 : Option Addr} {n1 c1 : Nat} {z2 : Option Addr} {n2 c2 : Nat} {z3 : Option Addr} {n3 c3 : Nat} {z4 : Option Addr} {n4 c4 : Nat} {w w' : World}
theorem S41.next (h : S41 w0 x A7 A9 g p7 p9 t v1 v2 v3 v4 z1 n1 c1 z2 n2 c2 z3 n3 c3 z4 n4 c4 tC w) (hb : Below w.heap.size w w') : S41 w0 x A7 A9 g p7 p9 t v1 v2 v3 v4 z1 n1 c1 z2 n2 c2 z3 n3 c3 z4 n4 c4 tC w' :=
  ⟨h.below.trans (hb.mono h.below.size), h.ki.below hb h.ki.lt, h.k7.below hb h.k7.lt, h.k9.below hb h.k9.lt, h.o7.next hb, h.q9, h.o9.next hb⟩
theorem S41.is7 (h : S41 w0 x A7 A9 g p7 p9 t v1 v2 v3 v4 z1 n1 c1 z2 n2 c2 z3 n3 c3 z4 n4 c4 tC w) (q : A7 = stA t v1 v2 v3 v4) : IsSt w t (.agg A7) := ⟨0, _, _, _, _, by rw [q], h.o7⟩
theorem S41.is9 (h : S41 w0 x A7 A9 g p7 p9 t v1 v2 v3 v4 z1 n1 c1 z2 n2 c2 z3 n3 c3 z4 n4 c4 tC w) : IsSt w tC (.agg A9) := ⟨0, _, _, _, _, by rw [h.q9], h.o9⟩
theorem S41.cells (h : S41 w0 x A7 A9 g p7 p9 t v1 v2 v3 v4 z1 n1 c1 z2 n2 c2 z3 n3 c3 z4 n4 c4 tC w) : w.cell? ⟨p9, 6, none⟩ = some (.slice z1 n1 c1) ∧ w.cell? ⟨p9, 7, none⟩ = some (.slice z2 n2 c2) ∧ w.cell? ⟨p9, 8, none⟩ = some (.slice z3 n3 c3) ∧ w.cell? ⟨p9, 9, none⟩ = some (.slice z4 n4 c4) := by
  have k := h.k9
  rw [h.q9] at k
  have q := st_cells k
  exact ⟨q.1, q.2.1, q.2.2.1, q.2.2.2.1⟩
theorem S41.i9 (h : S41 w0 x A7 A9 g p7 p9 t v1 v2 v3 v4 z1 n1 c1 z2 n2 c2 z3 n3 c3 z4 n4 c4 tC w) : (Try.prog.info? 41).map (·.size) = some A9.size := by rw [h.q9]; exact st_info _ _ _ _ _
theorem SmH.i7 (h : SmH w0 x A7 g p7 p9 kk t v1 v2 v3 v4 z1 n1 c1 z2 n2 c2 z3 n3 c3 z4 n4 c4) : (Try.prog.info? 41).map (·.size) = some A7.size := by rw [h.q7]; exact st_info _ _ _ _ _
/-- A cell of another block than these changes. -/
theorem S41.keep {k o : Nat} {u : Value} (h : S41 w0 x A7 A9 g p7 p9 t v1 v2 v3 v4 z1 n1 c1 z2 n2 c2 z3 n3 c3 z4 n4 c4 tC w) (ha : w0.heap.size ≤ k ∧ k ≠ g ∧ k ≠ p7 ∧ k ≠ p9 ∧ v1.ownBlock ≠ some k ∧ v2.ownBlock ≠ some k ∧ v3.ownBlock ≠ some k ∧ v4.ownBlock ≠ some k) :
    Below w0.heap.size w0 (w.setCell ⟨k, o, none⟩ u) ∧ Blk (w.setCell ⟨k, o, none⟩ u) g x 30 ∧ Blk (w.setCell ⟨k, o, none⟩ u) p7 A7 41 ∧ Blk (w.setCell ⟨k, o, none⟩ u) p9 A9 41 ∧ OwS (w.setCell ⟨k, o, none⟩ u) 0 t v1 v2 v3 v4 :=
  ⟨h.below.setCell ha.1 _, h.ki.other (a := ⟨k, o, none⟩) ha.2.1 _, h.k7.other (a := ⟨k, o, none⟩) ha.2.2.1 _, h.k9.other (a := ⟨k, o, none⟩) ha.2.2.2.1 _,
    ⟨h.o7.o1.setCell (a := ⟨k, o, none⟩) ha.2.2.2.2.1 _, h.o7.o2.setCell (a := ⟨k, o, none⟩) ha.2.2.2.2.2.1 _, h.o7.o3.setCell (a := ⟨k, o, none⟩) ha.2.2.2.2.2.2.1 _, h.o7.o4.setCell (a := ⟨k, o, none⟩) ha.2.2.2.2.2.2.2 _, h.o7.few⟩⟩
end
/-- Lists that differ at a place. -/
theorem set_ne {α : Type} {l : List α} {k : Nat} {x y : α} (h : l[k]? = some x) (hne : x ≠ y) : eqB l (l.set k y) = false := eqB_ne fun e => by
  have hk : k < l.length := (List.getElem?_eq_some_iff.1 h).1
  have : (l.set k y)[k]? = some y := by rw [List.getElem?_set_self hk]
  rw [← e, h] at this
  exact hne (Option.some.inj this)
theorem not_ne {b : Bool} : (!b) ≠ b := by cases b <;> simp
theorem xor_one {n : Nat} (h : 0 < n) (a : BitVec n) (e : a ^^^ BitVec.ofInt n 1 = a) : False := by
  have h1 : (a ^^^ BitVec.ofInt n 1).getLsbD 0 = a.getLsbD 0 := by rw [e]
  rw [BitVec.getLsbD_xor] at h1
  have h2 : (BitVec.ofInt n 1).getLsbD 0 = true := by
    rw [show (1 : Int) = ((1 : Nat) : Int) from rfl, BitVec.ofInt_natCast]
    simp [h]
  rw [h2] at h1
  cases c : a.getLsbD 0 <;> rw [c] at h1 <;> cases h1
theorem back16 (r : BitVec 16) : BitVec.ofInt 16 (IntKind.u16.wrap (r.toNat : Int)) = r := by
  apply BitVec.eq_of_toNat_eq
  rw [BitVec.toNat_ofInt]
  have := r.isLt
  simp [IntKind.wrap, IntKind.bits, IntKind.signed]
  omega
theorem back32 (r : BitVec 32) : BitVec.ofInt 32 (IntKind.u32.wrap (r.toNat : Int)) = r := by
  apply BitVec.eq_of_toNat_eq
  rw [BitVec.toNat_ofInt]
  have := r.isLt
  simp [IntKind.wrap, IntKind.bits, IntKind.signed]
  omega
theorem back64 (r : BitVec 64) : BitVec.ofInt 64 (IntKind.i64.wrap (r.toNat : Int)) = r := by
  apply BitVec.eq_of_toNat_eq
  rw [BitVec.toNat_ofInt]
  have := r.isLt
  simp [IntKind.wrap, IntKind.bits, IntKind.signed]
  omega
theorem xor_ne16 {v : Int} : bits BinOp.xor IntKind.u16 v 1 ≠ v := fun h => by
  have h2 : BitVec.ofInt 16 (IntKind.u16.wrap ((BitVec.ofInt 16 v ^^^ BitVec.ofInt 16 1).toNat : Int)) = BitVec.ofInt 16 v := congrArg (BitVec.ofInt 16) h
  rw [back16] at h2
  exact xor_one (by decide) _ h2
theorem xor_ne32 {v : Int} : bits BinOp.xor IntKind.u32 v 1 ≠ v := fun h => by
  have h2 : BitVec.ofInt 32 (IntKind.u32.wrap ((BitVec.ofInt 32 v ^^^ BitVec.ofInt 32 1).toNat : Int)) = BitVec.ofInt 32 v := congrArg (BitVec.ofInt 32) h
  rw [back32] at h2
  exact xor_one (by decide) _ h2
theorem xor_ne64 {v : Int} : bits BinOp.xor IntKind.i64 v 1 ≠ v := fun h => by
  have h2 : BitVec.ofInt 64 (IntKind.i64.wrap ((BitVec.ofInt 64 v ^^^ BitVec.ofInt 64 1).toNat : Int)) = BitVec.ofInt 64 v := congrArg (BitVec.ofInt 64) h
  rw [back64] at h2
  exact xor_one (by decide) _ h2
theorem tmod_nat4 (x : Nat) : (x : Int).tmod 4 = ((x % 4 : Nat) : Int) := by
  rw [Int.tmod_eq_emod_of_nonneg (by omega)]
  omega
theorem tmod_natn (x n : Nat) : (x : Int).tmod (n : Int) = ((x % n : Nat) : Int) := by
  rw [Int.tmod_eq_emod_of_nonneg (by omega)]
  simp
theorem tdiv_nat4 (x : Nat) : (x : Int).tdiv 4 = ((x / 4 : Nat) : Int) := by
  rw [Int.tdiv_eq_ediv_of_nonneg (by omega)]
  omega
theorem own_len {α : Type} {w : World} {B : Nat} {e : TypeId} {size : Nat} {enc : α → List Value} {a : Option Addr} {n c : Nat} {l : List α} (h : Own w B e size enc (.slice a n c) l) : n = l.length := by
  obtain ⟨a', c', e, -, -⟩ := h.shape
  injection e
noncomputable def tail4 (n : Nat) : Code := ((Try.f4.body.bind (fromC n)).getD .skip)
end Go.Proofs.Ytpbdamnlfpfclaa
