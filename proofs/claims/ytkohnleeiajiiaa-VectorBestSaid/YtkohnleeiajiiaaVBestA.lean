/- VectorBest: what its rounds do. -/
import Derived.Test.YtkohnleeiajiiaaSpeaks6
import Derived.Maps.AppendAt
import Derived.Laws.OwnMore
import Derived.Deep.DeepCutAuto
namespace Go.Proofs.Ytkohnleeiajiiaa
open Go.RowKit
set_option linter.unusedSimpArgs false

/-- A slice of vectors that came in. -/
def IsVRow (w : World) (a : Option Addr) (len : Nat) (l : List Vc) : Prop :=
  l.length = len ∧ ((a = none ∧ len = 0) ∨ ∃ x, a = some x ∧ ∀ i, i < len → w.cell? (x.add (i * 4)) = some (.int .u64 (l[i]!.r : Nat)) ∧ w.cell? ⟨(x.add (i * 4)).block, (x.add (i * 4)).off + 1, none⟩ = some (.int .u32 (l[i]!.c : Nat)) ∧ w.cell? ⟨(x.add (i * 4)).block, (x.add (i * 4)).off + 2, none⟩ = some (.int .u64 (l[i]!.b : Nat)) ∧ w.cell? ⟨(x.add (i * 4)).block, (x.add (i * 4)).off + 3, none⟩ = some (.int .u16 (l[i]!.p : Nat)))

/-- A vector that came in, where it lies. -/
structure XAt (w : World) (a : Addr) (x : Vc) : Prop where
  c0 : w.cell? a = some (.int .u64 (x.r : Nat))
  c1 : w.cell? ⟨a.block, a.off + 1, none⟩ = some (.int .u32 (x.c : Nat))
  c2 : w.cell? ⟨a.block, a.off + 2, none⟩ = some (.int .u64 (x.b : Nat))
  c3 : w.cell? ⟨a.block, a.off + 3, none⟩ = some (.int .u16 (x.p : Nat))
theorem XAt.all {w : World} {a : Addr} {x : Vc} (h : XAt w a x) : w.cell? a = some (.int .u64 (x.r : Nat)) ∧ w.cell? ⟨a.block, a.off + 1, none⟩ = some (.int .u32 (x.c : Nat)) ∧ w.cell? ⟨a.block, a.off + 2, none⟩ = some (.int .u64 (x.b : Nat)) ∧ w.cell? ⟨a.block, a.off + 3, none⟩ = some (.int .u16 (x.p : Nat)) := ⟨h.c0, h.c1, h.c2, h.c3⟩
theorem XAt.below {w w' : World} {a : Addr} {x : Vc} {B : Nat} (h : XAt w a x) (hb : Below B w w') (ha : a.block < B) : XAt w' a x :=
  ⟨by rw [hb.cell (p := a) ha, h.c0], by rw [hb.cell (p := ⟨a.block, a.off + 1, none⟩) ha, h.c1], by rw [hb.cell (p := ⟨a.block, a.off + 2, none⟩) ha, h.c2], by rw [hb.cell (p := ⟨a.block, a.off + 3, none⟩) ha, h.c3]⟩

theorem IsVRow.at {w w' : World} {x : Addr} {len : Nat} {l : List Vc} (h : IsVRow w (some x) len l) (hb : Below w.heap.size w w') (i : Nat) (hi : i < len) : XAt w' (x.add (i * 4)) l[i]! := by
  obtain ⟨-, ⟨h, -⟩ | ⟨y, hy, hc⟩⟩ := h
  · cases h
  · cases hy
    obtain ⟨h0, h1, h2, h3⟩ := hc i hi
    exact XAt.below ⟨h0, h1, h2, h3⟩ hb (block_lt_of_cell h0)

theorem vinfo60 : (Try.prog.info? 60).map (fun i => (i.zero, i.size, i.bytes)) = some (some (.agg nil4), 4, 32) := by kernel_rfl

/-- Their cells, one behind the other. -/
def vcL (l : List Vc) : List Value := l.flatMap fun x => (vcA x).toList

theorem cells_new (w : World) (cs : Array Value) (t : TypeId) : ∀ j u, cs.toList[j]? = some u → (w.alloc (.cells cs t)).cell? ((⟨w.heap.size, 0, none⟩ : Addr).add j) = some u := by
  intro j u h
  rw [show (⟨w.heap.size, 0, none⟩ : Addr).add j = ⟨w.heap.size, j, none⟩ by cases j <;> simp [Addr.add], (Blk.new w cs t).cell j]
  simpa using h

theorem vcL_succ (l : List Vc) (k : Nat) (h : k < l.length) : vcL (l.take k) ++ (vcA l[k]!).toList = vcL (l.take (k + 1)) := by
  rw [List.take_succ_eq_append_getElem h, getElem!_pos l k h]
  unfold vcL
  rw [List.flatMap_append]
  simp

theorem vcL_at (l : List Vc) (i j : Nat) (hi : i < l.length) (hj : j < 4) : (vcL l)[i * 4 + j]? = (vcA l[i]!)[j]? := by
  induction l generalizing i with
  | nil => simp at hi
  | cons x l ih =>
    have e : vcL (x :: l) = (vcA x).toList ++ vcL l := by simp [vcL]
    rw [e]
    cases i with
    | zero =>
      rw [List.getElem?_append_left (by simp; omega)]
      simp
    | succ i =>
      rw [List.getElem?_append_right (by simp; omega), show (i + 1) * 4 + j - (vcA x).toList.length = i * 4 + j by simp; omega, ih i (by simpa using hi)]
      simp

theorem vcL_len (l : List Vc) : (vcL l).length = l.length * 4 := by
  induction l with
  | nil => rfl
  | cons x l ih => rw [show vcL (x :: l) = (vcA x).toList ++ vcL l by simp [vcL], List.length_append, ih]; simp; omega

/-- The best of the first ones alone. -/
theorem bestN_take (l : List Vc) (k : Nat) (h : k ≤ l.length) (m : Nat) (hm : m ≤ k) : bestN (l.take k) m = bestN l m := by
  induction m with
  | zero => rfl
  | succ m ih =>
    have e : ∀ j, j < k → (l.take k)[j]! = l[j]! := fun j hj => by
      have h1 : j < (l.take k).length := by simp; omega
      have h2 : j < l.length := by omega
      rw [getElem!_pos (l.take k) j h1, getElem!_pos l j h2, List.getElem_take]
    have hb := bestN_lt l m
    rw [bestN_succ, bestN_succ, ih (by omega)]
    by_cases c : bestN l m < 0
    · simp [c]
    · rw [e m (by omega), e _ (by omega)]

set_option maxHeartbeats 1000000 in
theorem best_nil (w : World) : Calls Try.prog 25 #[.slice none 0 0] w fun e w' => e = .returned (.int .i64 (-1)) ∧ Below w.heap.size w w' := by
  go_enter Try.func25, Try.ntmps25
  go_wp2
  refine wp_loop_rounds 1 ?_
  rw [rounds_succ]
  go_wp2
  go_ret
  exact ⟨rfl, Below.refl _ _⟩

theorem best_own (B : Nat) (v : Value) (l : List Vc) (w : World) (ho : w.ownsRow B 60 4 v l.length (vcL l)) (hl : l.length ≤ 12) : Calls Try.prog 25 #[v] w fun e w' => e = .returned (.int .i64 (bestN l l.length)) ∧ Below w.heap.size w w' := by
  rcases ho.2 with ⟨rfl, h0⟩ | ⟨g, cap, cur, rfl, -⟩
  · rw [h0]
    exact best_nil w
  · refine best_any g cap l w ?_ (ho.lt g rfl).2 hl
    intro i hi
    have key : ∀ j, j < 4 → w.cell? ⟨g, i * 4 + j, none⟩ = (vcA l[i]!)[j]? := fun j hj => by
      rw [ho.cellAt (i * 4 + j) (by omega), vcL_at l i j hi hj]
    exact ⟨key 0 (by omega), key 1 (by omega), key 2 (by omega), key 3 (by omega)⟩

theorem own_keep {w w' : World} {B : Nat} {v : Value} {n : Nat} {xs : List Value} (h : w.ownsRow B 60 4 v n xs) (hb : Below w.heap.size w w') : w'.ownsRow B 60 4 v n xs :=
  h.kept (Below.grownBy hb none) (by by_cases c : v.ownBlock = none; · exact .inl c
                                     · exact .inr c)

/-- What stays while two are held against each other. -/
structure VbC (w0 : World) (v : Value) (n : Nat) (xs : List Value) (w : World) : Prop where
  below : Below w0.heap.size w0 w
  own : w.ownsRow w0.heap.size 60 4 v n xs

theorem VbC.next {w0 w w' : World} {v : Value} {n : Nat} {xs : List Value} (h : VbC w0 v n xs w) (hb : Below w.heap.size w w') : VbC w0 v n xs w' :=
  ⟨h.below.trans (hb.mono h.below.size), own_keep h.own hb⟩
theorem VbC.drew {w0 w : World} {v : Value} {n : Nat} {xs : List Value} (h : VbC w0 v n xs w) : VbC w0 v n xs w.drew := ⟨h.below.drew, h.own⟩

end Go.Proofs.Ytkohnleeiajiiaa
