import Derived.Maps.AppendAt
import Derived.Laws.OwnMore
import Derived.Deep.AppendLies
import Derived.OwnWalk
import Derived.Deep.MidRow
import Derived.Below
import Derived.WalkKit
import Derived.Lib.Hide
import Derived.Test.YtelohoomlgjjmaaDoorProg
import Derived.Deep.QuietTactic
import Derived.BigQuiet
import Derived.Deep.DeepCutAuto
import Derived.Deep.RegionHeld3
import Derived.Laws.CopyOwn
import Derived.Laws.Rows
import Derived.Laws.Tables
import Derived.BigFrame
set_option linter.unusedSimpArgs false
set_option linter.unusedVariables false
namespace Go.Proofs.YtelohoomlgjjmaaDoor
section
/- Slices of structs as lists; with no program in sight. -/
open Go.RowKit

section
variable {α : Type} {enc : α → List Value} {size : Nat}

/-- The elements' cells, one behind the other. -/
def cellsL (enc : α → List Value) (l : List α) : List Value := l.flatMap enc

theorem cellsL_nil : cellsL enc [] = [] := rfl
theorem cellsL_cons (x : α) (l : List α) : cellsL enc (x :: l) = enc x ++ cellsL enc l := List.flatMap_cons
theorem cellsL_app (a b : List α) : cellsL enc (a ++ b) = cellsL enc a ++ cellsL enc b := List.flatMap_append
theorem cellsL_one (x : α) : cellsL enc [x] = enc x := by simp [cellsL]
theorem cellsL_len (h : ∀ x, (enc x).length = size) (l : List α) : (cellsL enc l).length = l.length * size := by
  induction l with
  | nil => simp [cellsL]
  | cons x l ih => rw [cellsL_cons, List.length_append, h, ih, List.length_cons, Nat.succ_mul, Nat.add_comm]
theorem cellsL_at (h : ∀ x, (enc x).length = size) (l : List α) (i j : Nat) (x : α) (hx : l[i]? = some x) (hj : j < size) : (cellsL enc l)[i * size + j]? = (enc x)[j]? := by
  induction l generalizing i with
  | nil => simp at hx
  | cons y l ih =>
    rw [cellsL_cons]
    cases i with
    | zero =>
      simp only [List.getElem?_cons_zero, Option.some.injEq] at hx
      subst hx
      rw [Nat.zero_mul, Nat.zero_add, List.getElem?_append_left (by rw [h]; exact hj)]
    | succ i =>
      have e : (i + 1) * size + j = size + (i * size + j) := by rw [Nat.succ_mul]; omega
      rw [List.getElem?_append_right (by rw [h, e]; omega), h, e, Nat.add_sub_cancel_left]
      exact ih i (by simpa using hx)
theorem cellsL_take (h : ∀ x, (enc x).length = size) (l : List α) (k : Nat) : (cellsL enc l).take (k * size) = cellsL enc (l.take k) := by
  induction l generalizing k with
  | nil => simp [cellsL]
  | cons x l ih =>
    cases k with
    | zero => simp [cellsL]
    | succ k =>
      rw [cellsL_cons, List.take_succ_cons, cellsL_cons, ← ih k, List.take_append, h, List.take_of_length_le (by rw [h, Nat.succ_mul]; omega), Nat.succ_mul, Nat.add_sub_cancel]
theorem cellsL_drop (h : ∀ x, (enc x).length = size) (l : List α) (k : Nat) : (cellsL enc l).drop (k * size) = cellsL enc (l.drop k) := by
  induction l generalizing k with
  | nil => simp [cellsL]
  | cons x l ih =>
    cases k with
    | zero => simp
    | succ k =>
      rw [cellsL_cons, List.drop_succ_cons, ← ih k, List.drop_append, h, List.drop_of_length_le (by rw [h, Nat.succ_mul]; omega), Nat.succ_mul, Nat.add_sub_cancel, List.nil_append]
theorem cellsL_one_cell (h : ∀ x, ∀ u ∈ enc x, u.oneCell' = true) (l : List α) : ∀ u ∈ cellsL enc l, u.oneCell' = true := by
  intro u hu
  obtain ⟨x, -, hx⟩ := List.mem_flatMap.1 hu
  exact h x u hx

variable {w w' : World} {base : Nat} {e : TypeId} {v : Value} {l : List α}

/-- A slice of the call's own that holds these. -/
def Own (w : World) (base : Nat) (e : TypeId) (size : Nat) (enc : α → List Value) (v : Value) (l : List α) : Prop := w.ownsRow base e size v l.length (cellsL enc l)

theorem Own.nil (w : World) (base : Nat) (e : TypeId) (size : Nat) (enc : α → List Value) : Own w base e size enc (.slice none 0 0) [] := World.ownsRow_nil w base e size
theorem Own.cases (h : Own w base e size enc v l) : (v = .slice none 0 0 ∧ l = []) ∨ ∃ g cap, v = .slice (some ⟨g, 0, none⟩) l.length cap ∧ base ≤ g ∧ g < w.heap.size ∧ l.length ≤ cap ∧ cap ≤ maxLen := by
  rcases h.2 with ⟨h1, h2⟩ | ⟨g, cap, cur, h1, h2, h3, h4, h5, -⟩
  · exact .inl ⟨h1, List.eq_nil_of_length_eq_zero h2⟩
  · exact .inr ⟨g, cap, h1, h2, (Array.getElem?_eq_some_iff.1 h3).1, h4, h5⟩
theorem Own.at {g cap : Nat} (henc : ∀ x, (enc x).length = size) (h : Own w base e size enc (.slice (some ⟨g, 0, none⟩) l.length cap) l) (i j : Nat) (x : α) (hx : l[i]? = some x) (hj : j < size) : w.cell? ⟨g, i * size + j, none⟩ = (enc x)[j]? := by
  have hi : i < l.length := (List.getElem?_eq_some_iff.1 hx).1
  have hm : i * size + j < l.length * size := by
    have : (i + 1) * size ≤ l.length * size := Nat.mul_le_mul_right _ hi
    rw [Nat.succ_mul] at this
    omega
  rw [World.ownsRow.cellAt h (i * size + j) hm, cellsL_at henc l i j x hx hj]
theorem Own.free {g cap : Nat} (h : Own w base e size enc (.slice (some ⟨g, 0, none⟩) l.length cap) l) (j : Nat) : w.frozen? ⟨g, j, none⟩ = false := World.ownsRow.frozenAt h j
theorem Own.kept {row : Option Nat} (h : Own w base e size enc v l) (hg : w.grownBy w' row) (hne : v.ownBlock = none ∨ v.ownBlock ≠ row) : Own w' base e size enc v l := World.ownsRow.kept h hg hne
theorem Own.lt (h : Own w base e size enc v l) : ∀ k, v.ownBlock = some k → base ≤ k ∧ k < w.heap.size := World.ownsRow.lt h
theorem Own.below {B : Nat} (h : Own w base e size enc v l) (hb : Below B w w') (hB : ∀ k, v.ownBlock = some k → k < B) : Own w' base e size enc v l := by
  refine ⟨h.1, ?_⟩
  rcases h.2 with hn | ⟨g, cap, cur, rfl, h2, h3, h4⟩
  · exact .inl hn
  · exact .inr ⟨g, cap, cur, rfl, h2, (hb.block g (hB g rfl)).trans h3, h4⟩
theorem Own.next (h : Own w base e size enc v l) (hb : Below w.heap.size w w') : Own w' base e size enc v l := h.below hb (fun k hk => (h.lt k hk).2)
theorem Own.drew (h : Own w base e size enc v l) : Own w.drew base e size enc v l := h
theorem Own.alloc (h : Own w base e size enc v l) (o : Obj) : Own (w.alloc o) base e size enc v l := World.ownsRow.alloc h o
theorem Own.setCell {a : Addr} (h : Own w base e size enc v l) (ha : v.ownBlock ≠ some a.block) (u : Value) : Own (w.setCell a u) base e size enc v l := by
  refine ⟨h.1, ?_⟩
  rcases h.2 with hn | ⟨g, cap, cur, rfl, h2, h3, h4⟩
  · exact .inl hn
  · exact .inr ⟨g, cap, cur, rfl, h2, (Below.heap_setCell w a u g (fun q => ha (by rw [← q]; rfl))).trans h3, h4⟩
theorem Own.mono {base' : Nat} (h : Own w base e size enc v l) (hb : base' ≤ base) : Own w base' e size enc v l :=
  ⟨h.1, h.2.imp id fun ⟨g, cap, cur, h1, h2, h3⟩ => ⟨g, cap, cur, h1, Nat.le_trans hb h2, h3⟩⟩
/-- A new one, of no elements, and of some. -/
theorem Own.made (w : World) (hb : base ≤ w.heap.size) (enc : α → List Value) : Own (w.alloc (.cells #[] e)) base e size enc (.slice (some ⟨w.heap.size, 0, none⟩) 0 0) [] := by
  have := World.ownsRow_made (e := e) (size := size) w #[] 0 hb (by unfold maxLen; omega) (by simp)
  exact this
theorem Own.lit (w : World) (hb : base ≤ w.heap.size) (henc : ∀ x, (enc x).length = size) (l : List α) (hl : l.length ≤ maxLen) : Own (w.alloc (.cells (cellsL enc l).toArray e)) base e size enc (.slice (some ⟨w.heap.size, 0, none⟩) l.length l.length) l :=
  World.ownsRow_lit w (cellsL enc l).toArray l.length hb hl (by simp [cellsL_len henc])

/-- What a piece of one reads as. -/
theorem Own.piece {g cap : Nat} (henc : ∀ x, (enc x).length = size) (h : Own w base e size enc (.slice (some ⟨g, 0, none⟩) l.length cap) l) (k m : Nat) :
    ∀ j u, (cellsL enc ((l.drop k).take m))[j]? = some u → w.cell? ((⟨g, 0, none⟩ : Addr).add (k * size + j)) = some u := by
  intro j u hu
  rw [← cellsL_take henc, ← cellsL_drop henc] at hu
  have hj : j < m * size := by
    rcases Nat.lt_or_ge j (m * size) with c | c
    · exact c
    · rw [List.getElem?_eq_none (by rw [List.length_take]; omega)] at hu; cases hu
  rw [List.getElem?_take_of_lt hj, List.getElem?_drop] at hu
  exact World.ownsRow.cells h (g := g) rfl _ _ hu

/-- A slice that is read: these are its elements. -/
def Src (w : World) (enc : α → List Value) (sv : Value) (news : List α) : Prop :=
  (sv = .slice none 0 0 ∧ news = []) ∨ ∃ ad c, sv = .slice (some ad) news.length c ∧ ∀ j u, (cellsL enc news)[j]? = some u → w.cell? (ad.add j) = some u

theorem Own.src (h : Own w base e size enc v l) : Src w enc v l := by
  rcases h.cases with ⟨rfl, rfl⟩ | ⟨g, cap, rfl, -⟩
  · exact .inl ⟨rfl, rfl⟩
  · exact .inr ⟨_, cap, rfl, fun j u hu => World.ownsRow.cells h (g := g) rfl j u hu⟩

/-- append: what is read stands behind what was there. -/
theorem Own.app {P : Program} {t ty : TypeId} {i : TypeInfo} {z sv : Value} {news : List α} {bytes : Nat} (h : Own w base e size enc v l) (hs : Src w enc sv news) (ht : P.underlying t = some (.slice e)) (hi : P.info? e = some i) (hz : i.zero = some z)
    (hsize : i.size = size) (hby : i.bytes = bytes) (hzs : z.cells.size = size) (hsz : 0 < size) (henc : ∀ x, (enc x).length = size) (h1 : ∀ x, ∀ u ∈ enc x, u.oneCell' = true)
    (h63 : l.length + news.length ≤ maxLen) (hbytes : (l.length + news.length) * bytes ≤ 140737488355328) (hbase : base ≤ w.heap.size) :
    ∃ v' w', (Builtin.append_ #[t, t] ty #[v, sv]).run P w = .ok v' w' ∧ Own w' base e size enc v' (l ++ news) ∧ w.grownBy w' v.ownBlock ∧ (v'.ownBlock = v.ownBlock ∨ v'.ownBlock = some w.heap.size) := by
  rcases hs with ⟨rfl, rfl⟩ | ⟨ad, c, rfl, hc⟩
  · refine ⟨v, w, run_append_owned_none w base t ty e i size ht hi v l.length _ h, by simpa using h, World.grownBy.refl w _, .inl rfl⟩
  · obtain ⟨v', w', hrun, h2, h3, -, h5⟩ := run_append_own_at (P := P) w base t ty e i z size bytes ht hi hz hsize hby hzs hsz v l.length _ h ad news.length c (cellsL enc news) (cellsL_len henc news) hc (cellsL_one_cell h1 news) h63 hbytes hbase
    refine ⟨v', w', hrun, ?_, h3, h5⟩
    unfold Own
    rw [cellsL_app, List.length_append]
    exact h2

/-- The operation. -/
theorem wp_append_lst {P : Program} {o : Oper} {a : Act} {w : World} {K : Act → World → Prop} {Q : Exit → Act → World → Prop} (s x : Operand) (t : TypeId) (ho : o.op = .call { callee := .builtin .append, args := #[s, x], argTypes := #[t, t] })
    (v' : Value) (w' : World) (hrun : (Builtin.append_ #[t, t] o.type #[a.eval s, a.eval x]).run P w = .ok v' w') (h : K (a.put o.dst v') w') : o.wp P a w K Q := by
  unfold Oper.wp execOp
  simp only [ho, resolve, invoke, builtin, Sem.run_bind, Sem.run_pure, Result.andThen_ok, List.map_toArray, List.map_cons, List.map_nil, hrun]
  exact h

theorem Own.head {g cap k c : Nat} (henc : ∀ x, (enc x).length = size) (h : Own w base e size enc (.slice (some ⟨g, 0, none⟩) l.length cap) l) (hk : k ≤ l.length) : Src w enc (.slice (some ⟨g, 0, none⟩) k c) (l.take k) := by
  refine .inr ⟨⟨g, 0, none⟩, c, by rw [List.length_take, Nat.min_eq_left hk], fun j u hu => ?_⟩
  have := h.piece henc 0 k j u (by simpa using hu)
  simpa using this
theorem Own.tail {g cap k c : Nat} (henc : ∀ x, (enc x).length = size) (h : Own w base e size enc (.slice (some ⟨g, 0, none⟩) l.length cap) l) (hk : k ≤ l.length) (hc : l.length ≤ cap) :
    Src w enc (.slice (if cap = k then some ⟨g, 0, none⟩ else some ⟨g, k * size, none⟩) (l.length - k) c) (l.drop k) := by
  by_cases q : cap = k
  · rw [if_pos q]
    have : l.drop k = [] := List.drop_eq_nil_of_le (by omega)
    refine .inr ⟨⟨g, 0, none⟩, c, by rw [List.length_drop], fun j u hu => ?_⟩
    rw [this] at hu
    simp [cellsL] at hu
  · rw [if_neg q]
    refine .inr ⟨⟨g, k * size, none⟩, c, by rw [List.length_drop], fun j u hu => ?_⟩
    have := h.piece henc k (l.length - k) j u (by rw [List.take_of_length_le (by simp)]; exact hu)
    have e : (⟨g, k * size, none⟩ : Addr).add j = (⟨g, 0, none⟩ : Addr).add (k * size + j) := by
      unfold Addr.add
      by_cases c1 : j = 0 <;> by_cases c2 : k * size + j = 0 <;> simp_all
      all_goals omega
    rw [e]
    exact this

theorem grown_below {a b : World} {row : Option Nat} {B : Nat} (h : a.grownBy b row) (hr : ∀ k, row = some k → B ≤ k) (hB : B ≤ a.heap.size) : Below B a b :=
  ⟨h.os, h.tape, h.output, h.size, fun i hi => h.block i (by omega) (fun q => by have := hr i q.symm; omega)⟩

/-- These in the place of those from j on. -/
def putAt (xs : List Value) : Nat → List Value → List Value
  | _, [] => xs
  | j, u :: us => putAt (xs.set j u) (j + 1) us
theorem putAt_len (us : List Value) : ∀ (xs : List Value) (j : Nat), (putAt xs j us).length = xs.length := by
  induction us with
  | nil => intro xs j; rfl
  | cons u us ih => intro xs j; rw [putAt, ih, List.length_set]
theorem putAt_get (us : List Value) : ∀ (xs : List Value) (j i : Nat), j + us.length ≤ xs.length → (putAt xs j us)[i]? = if j ≤ i ∧ i < j + us.length then us[i - j]? else xs[i]? := by
  induction us with
  | nil =>
    intro xs j i _
    rw [if_neg (by simp only [List.length_nil]; omega)]
    rfl
  | cons u us ih =>
    intro xs j i h
    simp only [List.length_cons] at h ⊢
    rw [putAt, ih _ _ _ (by rw [List.length_set]; omega)]
    by_cases c : j = i
    · subst c
      rw [if_neg (by omega), if_pos (by omega), List.getElem?_set_self (by omega)]
      simp
    · by_cases c2 : j + 1 ≤ i ∧ i < j + 1 + us.length
      · rw [if_pos c2, if_pos (by omega)]
        obtain ⟨d, hd⟩ : ∃ d, i - j = d + 1 := ⟨i - j - 1, by omega⟩
        rw [hd, show i - (j + 1) = d by omega]
        rfl
      · rw [if_neg c2, if_neg (by omega), List.getElem?_set_ne c]
theorem putAt_cells (henc : ∀ x, (enc x).length = size) (l : List α) (k : Nat) (x : α) (hk : k < l.length) : putAt (cellsL enc l) (k * size) (enc x) = cellsL enc (l.set k x) := by
  have hl := cellsL_len henc l
  have hks : k * size + size ≤ l.length * size := by
    have : (k + 1) * size ≤ l.length * size := Nat.mul_le_mul_right _ hk
    rw [Nat.succ_mul] at this
    exact this
  apply List.ext_getElem?
  intro i
  rw [putAt_get _ _ _ _ (by rw [henc, hl]; exact hks), henc]
  rcases Nat.eq_zero_or_pos size with h0 | h0
  · subst h0
    rw [if_neg (by omega), List.getElem?_eq_none (by rw [hl]; omega), List.getElem?_eq_none (by rw [cellsL_len henc]; omega)]
  rcases Nat.lt_or_ge i (l.length * size) with hi | hi
  · have hd : i = i / size * size + i % size := by have := Nat.div_add_mod i size; rw [Nat.mul_comm] at this; omega
    have hm := Nat.mod_lt i h0
    have hdl : i / size < l.length := Nat.div_lt_of_lt_mul (by rw [Nat.mul_comm]; exact hi)
    obtain ⟨y, hy⟩ : ∃ y, l[i / size]? = some y := ⟨_, List.getElem?_eq_getElem hdl⟩
    by_cases c : i / size = k
    · have hset : (l.set k x)[i / size]? = some x := by rw [c, List.getElem?_set_self hk]
      have e := cellsL_at henc (l.set k x) (i / size) (i % size) x hset hm
      rw [← hd] at e
      rw [e, if_pos (by rw [← c]; omega), ← c]
      congr 1
      omega
    · have hset : (l.set k x)[i / size]? = some y := by rw [List.getElem?_set_ne (fun q => c q.symm), hy]
      have e := cellsL_at henc (l.set k x) (i / size) (i % size) y hset hm
      have e2 := cellsL_at henc l (i / size) (i % size) y hy hm
      rw [← hd] at e e2
      rw [e, e2, if_neg]
      rintro ⟨h1, h2⟩
      apply c
      rcases Nat.lt_trichotomy (i / size) k with q | q | q
      · have : (i / size + 1) * size ≤ k * size := Nat.mul_le_mul_right _ q
        rw [Nat.succ_mul] at this
        omega
      · exact q
      · have : (k + 1) * size ≤ i / size * size := Nat.mul_le_mul_right _ q
        rw [Nat.succ_mul] at this
        omega
  · rw [if_neg (by omega), List.getElem?_eq_none (by rw [hl]; omega), List.getElem?_eq_none (by rw [cellsL_len henc, List.length_set]; omega)]

theorem own_setCells {g cap n : Nat} (us : List Value) : ∀ (j : Nat) (w : World) (xs : List Value), w.ownsRow base e size (.slice (some ⟨g, 0, none⟩) n cap) n xs →
    (w.setCells g j us).ownsRow base e size (.slice (some ⟨g, 0, none⟩) n cap) n (putAt xs j us) ∧ w.grownBy (w.setCells g j us) (some g) := by
  induction us with
  | nil => intro j w xs h; exact ⟨h, World.grownBy.refl w _⟩
  | cons u us ih =>
    intro j w xs h
    obtain ⟨h1, h2⟩ := World.ownsRow.stored h j u
    obtain ⟨h3, h4⟩ := ih (j + 1) _ _ h1
    exact ⟨h3, h4.os.trans h2.os, h4.tape.trans h2.tape, h4.output.trans h2.output, Nat.le_trans h2.size h4.size, fun i hi hr => (h4.block i (Nat.lt_of_lt_of_le hi h2.size) hr).trans (h2.block i hi hr)⟩

/-- An element is stored in the place of one. -/
theorem Own.store {g cap : Nat} (henc : ∀ x, (enc x).length = size) (h : Own w base e size enc (.slice (some ⟨g, 0, none⟩) l.length cap) l) (k : Nat) (x : α) (hk : k < l.length) :
    Own (w.setCells g (k * size) (enc x)) base e size enc (.slice (some ⟨g, 0, none⟩) l.length cap) (l.set k x) ∧ w.grownBy (w.setCells g (k * size) (enc x)) (some g) := by
  obtain ⟨h1, h2⟩ := own_setCells (enc x) (k * size) w _ h
  rw [putAt_cells henc l k x hk] at h1
  refine ⟨?_, h2⟩
  unfold Own
  rw [List.length_set]
  exact h1
theorem Own.there {g cap : Nat} (henc : ∀ x, (enc x).length = size) (h : Own w base e size enc (.slice (some ⟨g, 0, none⟩) l.length cap) l) (k : Nat) (hk : k < l.length) : w.there g (k * size) size := by
  intro j hj
  obtain ⟨x, hx⟩ : ∃ x, l[k]? = some x := ⟨_, List.getElem?_eq_getElem hk⟩
  refine ⟨?_, h.free _⟩
  rw [h.at henc k j x hx hj, List.getElem?_eq_getElem (by rw [henc]; exact hj)]
  rfl

theorem wpList_append_lst {P : Program} {ops : Array Oper} {rest : List Oper} {o : Oper} {a : Act} {w : World} {Q : Exit → Act → World → Prop} (hgd : o.guard = none) (s x : Operand) (t : TypeId) (ho : o.op = .call { callee := .builtin .append, args := #[s, x], argTypes := #[t, t] })
    (v' : Value) (w' : World) (hrun : (Builtin.append_ #[t, t] o.type #[a.eval s, a.eval x]).run P w = .ok v' w') (h : wpList P ops Q rest (a.put o.dst v') w') : wpList P ops Q (o :: rest) a w :=
  wpList_plain hgd fun _ hK => wp_append_lst s x t ho v' w' hrun (hK _ _ h)
end
end
section
/- The document's own answers for VLANs. -/
open Go.RowKit

/-- A VLAN: its number, its members, those without a tag. -/
structure Vl where
  vid : Nat
  mem : Nat
  unt : Nat
deriving DecidableEq
def vlC (x : Vl) : List Value := [.int .u16 (x.vid : Nat), .int .u32 (x.mem : Nat), .int .u32 (x.unt : Nat)]
theorem vlC_len (x : Vl) : (vlC x).length = 3 := rfl
theorem vlC_one (x : Vl) : ∀ u ∈ vlC x, u.oneCell' = true := by
  intro u hu
  simp only [vlC, List.mem_cons, List.not_mem_nil, or_false] at hu
  rcases hu with rfl | rfl | rfl <;> rfl
abbrev vlV (x : Vl) : Value := .agg #[.int .u16 (x.vid : Nat), .int .u32 (x.mem : Nat), .int .u32 (x.unt : Nat)]

/-- The place of the first one that has a number, or -1. -/
def atV (vid : Nat) : List Vl → Int
  | [] => -1
  | x :: l => if x.vid = vid then 0 else if atV vid l < 0 then -1 else atV vid l + 1

theorem atV_none (vid : Nat) : ∀ l : List Vl, (∀ (i : Nat) (x : Vl), l[i]? = some x → x.vid ≠ vid) → atV vid l = -1
  | [], _ => rfl
  | y :: l, h => by
    have h0 := h 0 y rfl
    have ih := atV_none vid l (fun i x hx => h (i + 1) x (by simpa using hx))
    simp [atV, h0, ih]
theorem atV_some (vid : Nat) : ∀ (l : List Vl) (k : Nat) (x : Vl), l[k]? = some x → x.vid = vid → (∀ (i : Nat) (y : Vl), i < k → l[i]? = some y → y.vid ≠ vid) → atV vid l = k
  | [], _, _, h, _, _ => by simp at h
  | y :: l, 0, x, h, hx, _ => by
    simp only [List.getElem?_cons_zero, Option.some.injEq] at h
    subst h
    simp [atV, hx]
  | y :: l, k + 1, x, h, hx, hb => by
    have h0 := hb 0 y (by omega) rfl
    have ih := atV_some vid l k x (by simpa using h) hx (fun i z hi hz => hb (i + 1) z (by omega) (by simpa using hz))
    have : ¬ ((k : Int) < 0) := by omega
    simp [atV, h0, ih, this]

theorem ret_int {k : IntKind} {a b : Int} (h : a = b) : Ending.returned (.int k a) = .returned (.int k b) := by rw [h]

/-- Is each of the lowest 16 bits of u one of m, too? -/
def subB (m u : Nat) : Bool := (List.range 16).all fun i => !(decide (u / 2 ^ i % 2 = 1)) || decide (m / 2 ^ i % 2 = 1)
theorem subB_true {m u : Nat} (h : ∀ i, i < 16 → u / 2 ^ i % 2 = 1 → m / 2 ^ i % 2 = 1) : subB m u = true := by
  unfold subB
  rw [List.all_eq_true]
  intro i hi
  have := h i (List.mem_range.1 hi)
  by_cases c : u / 2 ^ i % 2 = 1 <;> simp [c, this]
theorem subB_false {m u i : Nat} (hi : i < 16) (h1 : u / 2 ^ i % 2 = 1) (h2 : ¬ m / 2 ^ i % 2 = 1) : subB m u = false := by
  unfold subB
  rw [List.all_eq_false]
  exact ⟨i, List.mem_range.2 hi, by simp [h1, h2]⟩
/-- May it be? The error's number. -/
def goodV (x : Vl) : Int := if x.vid < 1 ∨ 4094 < x.vid then 15 else if 65535 < x.mem ∨ 65535 < x.unt then 14 else if subB x.mem x.unt = true then 0 else 14

theorem half_next (n k m : Nat) (h : n = m / 2 ^ k) : n / 2 = m / 2 ^ (k + 1) := by rw [h, Nat.div_div_eq_div_mul, Nat.pow_succ]

theorem below_drewN {B : Nat} {w0 w : World} (h : Below B w0 w) (n : Nat) : Below B w0 (w.drewN n) := h.trans ⟨rfl, rfl, rfl, Nat.le_refl _, fun _ _ => rfl⟩
theorem atV_lt (vid : Nat) : ∀ l : List Vl, -1 ≤ atV vid l ∧ atV vid l < l.length
  | [] => by simp [atV]
  | x :: l => by
    have := atV_lt vid l
    unfold atV
    split
    · simp only [List.length_cons]; omega
    · split <;> (simp only [List.length_cons]; omega)

theorem ret_own {v : Value} {a b : Int} (h : a = b) : Ending.returned (.tuple #[v, .int .i64 a]) = .returned (.tuple #[v, .int .i64 b]) := by rw [h]

/-- Without the one of a number. -/
def dropV (l : List Vl) (vid : Nat) : List Vl := if atV vid l < 0 then l else l.eraseIdx (atV vid l).toNat
def dropE (l : List Vl) (vid : Nat) : Int := if atV vid l < 0 then 11 else 0
end
section
/- Blocks of cells that are known whole; loads of rows and of parts of rows; stores of one cell; with no program in sight. -/
open Go.RowKit

/-- Block g is just these cells. -/
def Blk (w : World) (g : Nat) (cs : Array Value) (t : TypeId) : Prop := w.heap[g]? = some (.cells cs t (0, 0))

theorem Blk.set {w : World} {g : Nat} {cs : Array Value} {t : TypeId} (h : Blk w g cs t) (j : Nat) (u : Value) : Blk (w.setCell ⟨g, j, none⟩ u) g (cs.setIfInBounds j u) t := heap_setCell_same w g j cs t u h
theorem Blk.other {w : World} {g : Nat} {cs : Array Value} {t : TypeId} (h : Blk w g cs t) {a : Addr} (ha : a.block ≠ g) (u : Value) : Blk (w.setCell a u) g cs t := (heap_setCell_other w a g u (fun e => ha e.symm)).trans h
theorem Blk.cell {w : World} {g : Nat} {cs : Array Value} {t : TypeId} (h : Blk w g cs t) (j : Nat) : w.cell? ⟨g, j, none⟩ = cs[j]? := cell_of_row w g j cs t (0, 0) h
theorem Blk.free {w : World} {g : Nat} {cs : Array Value} {t : TypeId} (h : Blk w g cs t) (j : Nat) : w.frozen? ⟨g, j, none⟩ = false := frozen_of_row w g j cs t h
theorem Blk.lt {w : World} {g : Nat} {cs : Array Value} {t : TypeId} (h : Blk w g cs t) : g < w.heap.size := by
  rcases Nat.lt_or_ge g w.heap.size with c | c
  · exact c
  · unfold Blk at h
    rw [Array.getElem?_eq_none c] at h
    cases h
theorem Blk.below {w w' : World} {B g : Nat} {cs : Array Value} {t : TypeId} (h : Blk w g cs t) (hb : Below B w w') (hg : g < B) : Blk w' g cs t := (hb.block g hg).trans h
theorem Blk.alloc {w : World} {g : Nat} {cs : Array Value} {t : TypeId} (h : Blk w g cs t) (o : Obj) : Blk (w.alloc o) g cs t := (Below.heap_alloc w o g h.lt).trans h
theorem Blk.new (w : World) (cs : Array Value) (t : TypeId) : Blk (w.alloc (.cells cs t)) w.heap.size cs t := by
  show (w.heap.push _)[w.heap.size]? = _
  simp
theorem Blk.drew {w : World} {g : Nat} {cs : Array Value} {t : TypeId} (h : Blk w g cs t) : Blk w.drew g cs t := h
theorem Blk.row {w : World} {g : Nat} {cs : Array Value} {t : TypeId} (h : Blk w g cs t) (new : Array Value) : Blk (w.setRow g new) g new t := setRow_heap w g cs new t (0, 0) h
theorem Blk.grown {w w' : World} {g : Nat} {cs : Array Value} {t : TypeId} {r : Option Nat} (h : Blk w g cs t) (hg : w.grownBy w' r) (hr : some g ≠ r) : Blk w' g cs t := (hg.block g h.lt hr).trans h

theorem Blk.rowOther {w : World} {g k : Nat} {cs : Array Value} {t : TypeId} (h : Blk w g cs t) (hk : g ≠ k) (new : Array Value) : Blk (w.setRow k new) g cs t := (setRow_other w k g new hk).trans h

/-- Two results: a row, and a slot. -/
theorem results_row_tmp {P : Program} {fn : Func} {p u : Tmp} {ty : TypeId} (h : fn.results = #[.cell p ty, .tmp u]) (tmps : Array Value) (w : World) (g : Nat) (t : TypeId) (cs : Array Value) (v : Value) (d : TypeDesc)
    (hp : tmps.getD p undef = .pointer (some ⟨g, 0, none⟩)) (hv : tmps.getD u undef = v) (hg : Blk w g cs t)
    (hu : P.underlying ty = some d) (hd : (match d with | .struct _ | .array _ _ => true | _ => false) = true) (hi : (P.info? ty).map (·.size) = some cs.size) :
    (results fn tmps).run P w = .ok (.tuple #[.agg cs, v]) w := by
  have hp' : tmps[p]?.getD undef = .pointer (some ⟨g, 0, none⟩) := by simpa using hp
  have hv' : tmps[u]?.getD undef = v := by simpa using hv
  simp [results, h, hp', hv', asAddr, run_loadVar_row w g t ty cs (0, 0) d hg hu hd hi]

theorem run_loadVar_of {P : Program} {o : Oper} {a : Act} {w : World} (ty : TypeId) (x : Operand) (ho : o.op = .load ty x) (g : Nat) (hx : a.eval x = .pointer (some ⟨g, 0, none⟩)) (t : TypeId) (cs : Array Value) (d : TypeDesc) (hg : Blk w g cs t)
    (hu : P.underlying ty = some d) (hd : (match d with | .struct _ | .array _ _ => true | _ => false) = true) (hi : (P.info? ty).map (·.size) = some cs.size) :
    (execOp a.eval o).run P w = .ok (.value (.agg cs)) w := by
  unfold execOp
  simp only [ho, hx, Instr.loadAt, Instr.sureAddr, Sem.run_bind, Sem.run_pure, Result.andThen_ok, run_loadVar_row w g t ty cs (0, 0) d hg hu hd hi]

/-- These blocks are known whole; nothing that was there at first has turned. -/
structure Kn (w0 : World) (l : List (Nat × Array Value × TypeId)) (w : World) : Prop where
  all : ∀ x ∈ l, Blk w x.1 x.2.1 x.2.2
  below : Below w0.heap.size w0 w
section
variable {w0 w w' : World} {l l' : List (Nat × Array Value × TypeId)} {c : Nat} {a : Array Value} {t : TypeId}
theorem Kn.nil (w0 : World) : Kn w0 [] w0 := ⟨fun _ h => (by cases h), Below.refl _ _⟩
theorem Kn.at (h : Kn w0 l w) (i : Nat) {c : Nat} {a : Array Value} {t : TypeId} (e : l[i]? = some (c, a, t)) : Blk w c a t := h.all _ (List.mem_of_getElem? e)
theorem Kn.drew (h : Kn w0 l w) : Kn w0 l w.drew := ⟨fun x hx => (h.all x hx).drew, h.below.drew⟩
theorem Kn.next (h : Kn w0 l w) (hb : Below w.heap.size w w') : Kn w0 l w' := ⟨fun x hx => (h.all x hx).below hb (h.all x hx).lt, h.below.trans (hb.mono h.below.size)⟩
theorem Kn.alloc (h : Kn w0 l w) (a : Array Value) (t : TypeId) : Kn w0 ((w.heap.size, a, t) :: l) (w.alloc (.cells a t)) := by
  refine ⟨fun x hx => ?_, h.below.alloc h.below.size _⟩
  rcases List.mem_cons.1 hx with rfl | hx
  · exact Blk.new _ _ _
  · exact (h.all x hx).alloc _
theorem Kn.row (h : Kn w0 ((c, a, t) :: l) w) (hc : ∀ x ∈ l, x.1 ≠ c) (h0 : w0.heap.size ≤ c) (n : Array Value) : Kn w0 ((c, n, t) :: l) (w.setRow c n) := by
  refine ⟨fun x hx => ?_, below_setRow h.below h0 n⟩
  rcases List.mem_cons.1 hx with rfl | hx
  · exact (h.all (c, a, t) List.mem_cons_self).row n
  · exact (h.all x (List.mem_cons_of_mem _ hx)).rowOther (hc x hx) n
theorem Kn.set (h : Kn w0 ((c, a, t) :: l) w) (hc : ∀ x ∈ l, x.1 ≠ c) (h0 : w0.heap.size ≤ c) (j : Nat) (v : Value) : Kn w0 ((c, a.setIfInBounds j v, t) :: l) (w.setCell ⟨c, j, none⟩ v) := by
  refine ⟨fun x hx => ?_, h.below.setCell h0 _⟩
  rcases List.mem_cons.1 hx with rfl | hx
  · exact (h.all (c, a, t) List.mem_cons_self).set j v
  · exact (h.all x (List.mem_cons_of_mem _ hx)).other (a := ⟨c, j, none⟩) (fun e => hc x hx e.symm) v
/-- A block that is made and filled at once. -/
theorem Kn.laid (h : Kn w0 l w) (n a : Array Value) (t : TypeId) : Kn w0 ((w.heap.size, n, t) :: l) ((w.alloc (.cells a t)).setRow w.heap.size n) :=
  (h.alloc a t).row (fun x hx => Nat.ne_of_lt (h.all x hx).lt) h.below.size n
theorem Kn.sub (h : Kn w0 l w) (s : ∀ x ∈ l', x ∈ l) : Kn w0 l' w := ⟨fun x hx => h.all x (s x hx), h.below⟩
theorem Kn.fresh (h : Kn w0 l w) : ∀ x ∈ l, x.1 ≠ w.heap.size := fun x hx => Nat.ne_of_lt (h.all x hx).lt
theorem Kn.size (h : Kn w0 l w) : w0.heap.size ≤ w.heap.size := h.below.size
end

/-- An operation that yields a value, guarded or not. -/
theorem wpList_val {P : Program} {ops : Array Oper} {Q : Exit → Act → World → Prop} {a : Act} {w : World} {rest : List Oper} {o : Oper} (v : Value) (hw : Region.wanted o (yielded ops a.tmps) = true)
    (hrun : (execOp a.eval o).run P w = .ok (.value v) w) (h : wpList P ops Q rest (a.put o.dst v) w) : wpList P ops Q (o :: rest) a w :=
  BigFrame.wpList_want hw fun K hK => by unfold Oper.wp; simp only [hrun]; exact hK _ _ h

/-- A part of a row. -/
theorem run_loadPart_of {P : Program} {o : Oper} {a : Act} {w : World} (ty : TypeId) (x : Operand) (ho : o.op = .load ty x) (g j : Nat) (hx : a.eval x = .pointer (some ⟨g, j, none⟩)) (t : TypeId) (cs : Array Value) (part : List Value) (d : TypeDesc) (hg : Blk w g cs t)
    (hp : ∀ i v, part[i]? = some v → cs[j + i]? = some v)
    (hu : P.underlying ty = some d) (hd : d.isRow = true) (hi : (P.info? ty).map (·.size) = some part.length) :
    (execOp a.eval o).run P w = .ok (.value (.agg part.toArray)) w := by
  unfold execOp
  have hr : w.rangeAt g j part := fun i v hv => by rw [hg.cell]; exact hp i v hv
  simp only [ho, hx, Instr.loadAt, Instr.sureAddr, Sem.run_bind, Sem.run_pure, Result.andThen_ok, run_loadVar_mid w g j ty part d hr hu hd hi]
/-- A store of one cell. -/
theorem wp_store_cell {P : Program} {o : Oper} {a : Act} {w : World} {K : Act → World → Prop} {Q : Exit → Act → World → Prop} (ty : TypeId) (x y : Operand) (ho : o.op = .store ty x y)
    (p : Addr) (v : Value) (hx : a.eval x = .pointer (some p)) (hy : a.eval y = v) (hrun : (Instr.storeAt ty (.pointer (some p)) v).run P w = .ok () (w.setCell p v))
    (h : K (a.put o.dst undef) (w.setCell p v)) : o.wp P a w K Q := by
  unfold Oper.wp execOp
  simp only [ho, hx, hy, Sem.run_bind, Sem.run_pure, hrun, Result.andThen_ok]
  exact h
end
section
/- The document's own Set of a VLAN. -/
open Go.RowKit

/-- How many stand ahead of a number. -/
def posV (vid : Nat) : List Vl → Nat
  | [] => 0
  | y :: l => if y.vid < vid then posV vid l + 1 else 0
theorem posV_is (vid : Nat) : ∀ (l : List Vl) (k : Nat), (∀ (j : Nat) (y : Vl), j < k → l[j]? = some y → y.vid < vid) → k ≤ l.length → (∀ y, l[k]? = some y → ¬ y.vid < vid) → posV vid l = k
  | [], k, _, hk, _ => by simp at hk; simp [posV, hk]
  | y :: l, 0, _, _, h => by
    have := h y rfl
    simp [posV, this]
  | y :: l, k + 1, hb, hk, h => by
    have h0 := hb 0 y (by omega) rfl
    have ih := posV_is vid l k (fun j z hj hz => hb (j + 1) z (by omega) (by simpa using hz)) (by simpa using hk) (fun z hz => h z (by simpa using hz))
    simp [posV, h0, ih]

/-- With a VLAN; the error's number. -/
def setV (l : List Vl) (x : Vl) : List Vl := if goodV x ≠ 0 then l else if 0 ≤ atV x.vid l then l.set (atV x.vid l).toNat x else if 16 ≤ l.length then l else l.take (posV x.vid l) ++ [x] ++ l.drop (posV x.vid l)
def setVE (l : List Vl) (x : Vl) : Int := if goodV x ≠ 0 then goodV x else if 0 ≤ atV x.vid l then 0 else if 16 ≤ l.length then 13 else 0

abbrev vlA (x : Vl) : Array Value := #[.int .u16 (x.vid : Nat), .int .u32 (x.mem : Nat), .int .u32 (x.unt : Nat)]
theorem vlA_one (x : Vl) : (vlA x).all (·.oneCell') = true := by simp [Value.oneCell']
end
section
/- The document's own Set of a VLAN: a new one. -/
open Go.RowKit

theorem posV_spec (vid : Nat) : ∀ l : List Vl, posV vid l ≤ l.length ∧ (∀ (j : Nat) (y : Vl), j < posV vid l → l[j]? = some y → y.vid < vid) ∧ (∀ y, l[posV vid l]? = some y → ¬ y.vid < vid)
  | [] => ⟨by simp [posV], fun j y hj => by simp [posV] at hj, fun y hy => by simp at hy⟩
  | z :: l => by
    obtain ⟨h1, h2, h3⟩ := posV_spec vid l
    by_cases c : z.vid < vid
    · have e : posV vid (z :: l) = posV vid l + 1 := by simp [posV, c]
      rw [e]
      refine ⟨by simp only [List.length_cons]; omega, fun j y hj hy => ?_, fun y hy => h3 y (by simpa using hy)⟩
      cases j with
      | zero =>
        simp only [List.getElem?_cons_zero, Option.some.injEq] at hy
        subst hy
        exact c
      | succ j => exact h2 j y (by omega) (by simpa using hy)
    · have e : posV vid (z :: l) = 0 := by simp [posV, c]
      rw [e]
      refine ⟨by omega, fun j y hj => absurd hj (Nat.not_lt_zero _), fun y hy => ?_⟩
      simp only [List.getElem?_cons_zero, Option.some.injEq] at hy
      subst hy
      exact c

theorem atV_neg {vid : Nat} {l : List Vl} (h : ¬ 0 ≤ atV vid l) : atV vid l = -1 := by have := (atV_lt vid l).1; omega
end
end Go.Proofs.YtelohoomlgjjmaaDoor
