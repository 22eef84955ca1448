/- Slices of structs as lists; with no program in sight. -/
import Derived.Maps.AppendAt
import Derived.Laws.OwnMore
import Derived.Deep.AppendLies
import Derived.OwnWalk
import Derived.Deep.MidRow
import Derived.Below
import Derived.WalkKit
import Derived.Lib.Hide
namespace Go.Proofs.Ytiophmmcennjnaa
open Go.RowKit

section
variable {α : Type} {enc : α → List Value} {size : Nat}

/-- The elements' cells, one behind the other. -/
def cellsL (enc : α → List Value) (l : List α) : List Value := l.flatMap enc

theorem cellsL_nil : cellsL enc [] = [] := rfl
theorem cellsL_cons (x : α) (l : List α) : cellsL enc (x :: l) = enc x ++ cellsL enc l := List.flatMap_cons
theorem cellsL_app (a b : List α) : cellsL enc (a ++ b) = cellsL enc a ++ cellsL enc b := List.flatMap_append
theorem cellsL_one (x : α) : cellsL enc [x] = enc x := by simp [cellsL]
theorem cellsL_len (h : ∀ x, (enc x).length = size) (l : List α) : (cellsL enc l).length = l.length * size := by
  induction l with
  | nil => simp [cellsL]
  | cons x l ih => rw [cellsL_cons, List.length_append, h, ih, List.length_cons, Nat.succ_mul, Nat.add_comm]
theorem cellsL_at (h : ∀ x, (enc x).length = size) (l : List α) (i j : Nat) (x : α) (hx : l[i]? = some x) (hj : j < size) : (cellsL enc l)[i * size + j]? = (enc x)[j]? := by
  induction l generalizing i with
  | nil => simp at hx
  | cons y l ih =>
    rw [cellsL_cons]
    cases i with
    | zero =>
      simp only [List.getElem?_cons_zero, Option.some.injEq] at hx
      subst hx
      rw [Nat.zero_mul, Nat.zero_add, List.getElem?_append_left (by rw [h]; exact hj)]
    | succ i =>
      have e : (i + 1) * size + j = size + (i * size + j) := by rw [Nat.succ_mul]; omega
      rw [List.getElem?_append_right (by rw [h, e]; omega), h, e, Nat.add_sub_cancel_left]
      exact ih i (by simpa using hx)
theorem cellsL_take (h : ∀ x, (enc x).length = size) (l : List α) (k : Nat) : (cellsL enc l).take (k * size) = cellsL enc (l.take k) := by
  induction l generalizing k with
  | nil => simp [cellsL]
  | cons x l ih =>
    cases k with
    | zero => simp [cellsL]
    | succ k =>
      rw [cellsL_cons, List.take_succ_cons, cellsL_cons, ← ih k, List.take_append, h, List.take_of_length_le (by rw [h, Nat.succ_mul]; omega), Nat.succ_mul, Nat.add_sub_cancel]
theorem cellsL_drop (h : ∀ x, (enc x).length = size) (l : List α) (k : Nat) : (cellsL enc l).drop (k * size) = cellsL enc (l.drop k) := by
  induction l generalizing k with
  | nil => simp [cellsL]
  | cons x l ih =>
    cases k with
    | zero => simp
    | succ k =>
      rw [cellsL_cons, List.drop_succ_cons, ← ih k, List.drop_append, h, List.drop_of_length_le (by rw [h, Nat.succ_mul]; omega), Nat.succ_mul, Nat.add_sub_cancel, List.nil_append]
theorem cellsL_one_cell (h : ∀ x, ∀ u ∈ enc x, u.oneCell' = true) (l : List α) : ∀ u ∈ cellsL enc l, u.oneCell' = true := by
  intro u hu
  obtain ⟨x, -, hx⟩ := List.mem_flatMap.1 hu
  exact h x u hx

variable {w w' : World} {base : Nat} {e : TypeId} {v : Value} {l : List α}

/-- A slice of the call's own that holds these. -/
def Own (w : World) (base : Nat) (e : TypeId) (size : Nat) (enc : α → List Value) (v : Value) (l : List α) : Prop := w.ownsRow base e size v l.length (cellsL enc l)

theorem Own.nil (w : World) (base : Nat) (e : TypeId) (size : Nat) (enc : α → List Value) : Own w base e size enc (.slice none 0 0) [] := World.ownsRow_nil w base e size
theorem Own.cases (h : Own w base e size enc v l) : (v = .slice none 0 0 ∧ l = []) ∨ ∃ g cap, v = .slice (some ⟨g, 0, none⟩) l.length cap ∧ base ≤ g ∧ g < w.heap.size ∧ l.length ≤ cap ∧ cap ≤ maxLen := by
  rcases h.2 with ⟨h1, h2⟩ | ⟨g, cap, cur, h1, h2, h3, h4, h5, -⟩
  · exact .inl ⟨h1, List.eq_nil_of_length_eq_zero h2⟩
  · exact .inr ⟨g, cap, h1, h2, (Array.getElem?_eq_some_iff.1 h3).1, h4, h5⟩
theorem Own.at {g cap : Nat} (henc : ∀ x, (enc x).length = size) (h : Own w base e size enc (.slice (some ⟨g, 0, none⟩) l.length cap) l) (i j : Nat) (x : α) (hx : l[i]? = some x) (hj : j < size) : w.cell? ⟨g, i * size + j, none⟩ = (enc x)[j]? := by
  have hi : i < l.length := (List.getElem?_eq_some_iff.1 hx).1
  have hm : i * size + j < l.length * size := by
    have : (i + 1) * size ≤ l.length * size := Nat.mul_le_mul_right _ hi
    rw [Nat.succ_mul] at this
    omega
  rw [World.ownsRow.cellAt h (i * size + j) hm, cellsL_at henc l i j x hx hj]
theorem Own.free {g cap : Nat} (h : Own w base e size enc (.slice (some ⟨g, 0, none⟩) l.length cap) l) (j : Nat) : w.frozen? ⟨g, j, none⟩ = false := World.ownsRow.frozenAt h j
theorem Own.kept {row : Option Nat} (h : Own w base e size enc v l) (hg : w.grownBy w' row) (hne : v.ownBlock = none ∨ v.ownBlock ≠ row) : Own w' base e size enc v l := World.ownsRow.kept h hg hne
theorem Own.lt (h : Own w base e size enc v l) : ∀ k, v.ownBlock = some k → base ≤ k ∧ k < w.heap.size := World.ownsRow.lt h
theorem Own.below {B : Nat} (h : Own w base e size enc v l) (hb : Below B w w') (hB : ∀ k, v.ownBlock = some k → k < B) : Own w' base e size enc v l := by
  refine ⟨h.1, ?_⟩
  rcases h.2 with hn | ⟨g, cap, cur, rfl, h2, h3, h4⟩
  · exact .inl hn
  · exact .inr ⟨g, cap, cur, rfl, h2, (hb.block g (hB g rfl)).trans h3, h4⟩
theorem Own.next (h : Own w base e size enc v l) (hb : Below w.heap.size w w') : Own w' base e size enc v l := h.below hb (fun k hk => (h.lt k hk).2)
theorem Own.drew (h : Own w base e size enc v l) : Own w.drew base e size enc v l := h
theorem Own.alloc (h : Own w base e size enc v l) (o : Obj) : Own (w.alloc o) base e size enc v l := World.ownsRow.alloc h o
theorem Own.setCell {a : Addr} (h : Own w base e size enc v l) (ha : v.ownBlock ≠ some a.block) (u : Value) : Own (w.setCell a u) base e size enc v l := by
  refine ⟨h.1, ?_⟩
  rcases h.2 with hn | ⟨g, cap, cur, rfl, h2, h3, h4⟩
  · exact .inl hn
  · exact .inr ⟨g, cap, cur, rfl, h2, (Below.heap_setCell w a u g (fun q => ha (by rw [← q]; rfl))).trans h3, h4⟩
theorem Own.mono {base' : Nat} (h : Own w base e size enc v l) (hb : base' ≤ base) : Own w base' e size enc v l :=
  ⟨h.1, h.2.imp id fun ⟨g, cap, cur, h1, h2, h3⟩ => ⟨g, cap, cur, h1, Nat.le_trans hb h2, h3⟩⟩
/-- A new one, of no elements, and of some. -/
theorem Own.made (w : World) (hb : base ≤ w.heap.size) (enc : α → List Value) : Own (w.alloc (.cells #[] e)) base e size enc (.slice (some ⟨w.heap.size, 0, none⟩) 0 0) [] := by
  have := World.ownsRow_made (e := e) (size := size) w #[] 0 hb (by unfold maxLen; omega) (by simp)
  exact this
theorem Own.lit (w : World) (hb : base ≤ w.heap.size) (henc : ∀ x, (enc x).length = size) (l : List α) (hl : l.length ≤ maxLen) : Own (w.alloc (.cells (cellsL enc l).toArray e)) base e size enc (.slice (some ⟨w.heap.size, 0, none⟩) l.length l.length) l :=
  World.ownsRow_lit w (cellsL enc l).toArray l.length hb hl (by simp [cellsL_len henc])

/-- What a piece of one reads as. -/
theorem Own.piece {g cap : Nat} (henc : ∀ x, (enc x).length = size) (h : Own w base e size enc (.slice (some ⟨g, 0, none⟩) l.length cap) l) (k m : Nat) :
    ∀ j u, (cellsL enc ((l.drop k).take m))[j]? = some u → w.cell? ((⟨g, 0, none⟩ : Addr).add (k * size + j)) = some u := by
  intro j u hu
  rw [← cellsL_take henc, ← cellsL_drop henc] at hu
  have hj : j < m * size := by
    rcases Nat.lt_or_ge j (m * size) with c | c
    · exact c
    · rw [List.getElem?_eq_none (by rw [List.length_take]; omega)] at hu; cases hu
  rw [List.getElem?_take_of_lt hj, List.getElem?_drop] at hu
  exact World.ownsRow.cells h (g := g) rfl _ _ hu

/-- A slice that is read: these are its elements. -/
def Src (w : World) (enc : α → List Value) (sv : Value) (news : List α) : Prop :=
  (sv = .slice none 0 0 ∧ news = []) ∨ ∃ ad c, sv = .slice (some ad) news.length c ∧ ∀ j u, (cellsL enc news)[j]? = some u → w.cell? (ad.add j) = some u

theorem Own.src (h : Own w base e size enc v l) : Src w enc v l := by
  rcases h.cases with ⟨rfl, rfl⟩ | ⟨g, cap, rfl, -⟩
  · exact .inl ⟨rfl, rfl⟩
  · exact .inr ⟨_, cap, rfl, fun j u hu => World.ownsRow.cells h (g := g) rfl j u hu⟩

/-- append: what is read stands behind what was there. -/
theorem Own.app {P : Program} {t ty : TypeId} {i : TypeInfo} {z sv : Value} {news : List α} {bytes : Nat} (h : Own w base e size enc v l) (hs : Src w enc sv news) (ht : P.underlying t = some (.slice e)) (hi : P.info? e = some i) (hz : i.zero = some z)
    (hsize : i.size = size) (hby : i.bytes = bytes) (hzs : z.cells.size = size) (hsz : 0 < size) (henc : ∀ x, (enc x).length = size) (h1 : ∀ x, ∀ u ∈ enc x, u.oneCell' = true)
    (h63 : l.length + news.length ≤ maxLen) (hbytes : (l.length + news.length) * bytes ≤ 140737488355328) (hbase : base ≤ w.heap.size) :
    ∃ v' w', (Builtin.append_ #[t, t] ty #[v, sv]).run P w = .ok v' w' ∧ Own w' base e size enc v' (l ++ news) ∧ w.grownBy w' v.ownBlock ∧ (v'.ownBlock = v.ownBlock ∨ v'.ownBlock = some w.heap.size) := by
  rcases hs with ⟨rfl, rfl⟩ | ⟨ad, c, rfl, hc⟩
  · refine ⟨v, w, run_append_owned_none w base t ty e i size ht hi v l.length _ h, by simpa using h, World.grownBy.refl w _, .inl rfl⟩
  · obtain ⟨v', w', hrun, h2, h3, -, h5⟩ := run_append_own_at (P := P) w base t ty e i z size bytes ht hi hz hsize hby hzs hsz v l.length _ h ad news.length c (cellsL enc news) (cellsL_len henc news) hc (cellsL_one_cell h1 news) h63 hbytes hbase
    refine ⟨v', w', hrun, ?_, h3, h5⟩
    unfold Own
    rw [cellsL_app, List.length_append]
    exact h2

/-- The operation. -/
theorem wp_append_lst {P : Program} {o : Oper} {a : Act} {w : World} {K : Act → World → Prop} {Q : Exit → Act → World → Prop} (s x : Operand) (t : TypeId) (ho : o.op = .call { callee := .builtin .append, args := #[s, x], argTypes := #[t, t] })
    (v' : Value) (w' : World) (hrun : (Builtin.append_ #[t, t] o.type #[a.eval s, a.eval x]).run P w = .ok v' w') (h : K (a.put o.dst v') w') : o.wp P a w K Q := by
  unfold Oper.wp execOp
  simp only [ho, resolve, invoke, builtin, Sem.run_bind, Sem.run_pure, Result.andThen_ok, List.map_toArray, List.map_cons, List.map_nil, hrun]
  exact h

theorem Own.head {g cap k c : Nat} (henc : ∀ x, (enc x).length = size) (h : Own w base e size enc (.slice (some ⟨g, 0, none⟩) l.length cap) l) (hk : k ≤ l.length) : Src w enc (.slice (some ⟨g, 0, none⟩) k c) (l.take k) := by
  refine .inr ⟨⟨g, 0, none⟩, c, by rw [List.length_take, Nat.min_eq_left hk], fun j u hu => ?_⟩
  have := h.piece henc 0 k j u (by simpa using hu)
  simpa using this
theorem Own.tail {g cap k c : Nat} (henc : ∀ x, (enc x).length = size) (h : Own w base e size enc (.slice (some ⟨g, 0, none⟩) l.length cap) l) (hk : k ≤ l.length) (hc : l.length ≤ cap) :
    Src w enc (.slice (if cap = k then some ⟨g, 0, none⟩ else some ⟨g, k * size, none⟩) (l.length - k) c) (l.drop k) := by
  by_cases q : cap = k
  · rw [if_pos q]
    have : l.drop k = [] := List.drop_eq_nil_of_le (by omega)
    refine .inr ⟨⟨g, 0, none⟩, c, by rw [List.length_drop], fun j u hu => ?_⟩
    rw [this] at hu
    simp [cellsL] at hu
  · rw [if_neg q]
    refine .inr ⟨⟨g, k * size, none⟩, c, by rw [List.length_drop], fun j u hu => ?_⟩
    have := h.piece henc k (l.length - k) j u (by rw [List.take_of_length_le (by simp)]; exact hu)
    have e : (⟨g, k * size, none⟩ : Addr).add j = (⟨g, 0, none⟩ : Addr).add (k * size + j) := by
      unfold Addr.add
      by_cases c1 : j = 0 <;> by_cases c2 : k * size + j = 0 <;> simp_all
      all_goals omega
    rw [e]
    exact this

theorem grown_below {a b : World} {row : Option Nat} {B : Nat} (h : a.grownBy b row) (hr : ∀ k, row = some k → B ≤ k) (hB : B ≤ a.heap.size) : Below B a b :=
  ⟨h.os, h.tape, h.output, h.size, fun i hi => h.block i (by omega) (fun q => by have := hr i q.symm; omega)⟩

/-- These in the place of those from j on. -/
def putAt (xs : List Value) : Nat → List Value → List Value
  | _, [] => xs
  | j, u :: us => putAt (xs.set j u) (j + 1) us
theorem putAt_len (us : List Value) : ∀ (xs : List Value) (j : Nat), (putAt xs j us).length = xs.length := by
  induction us with
  | nil => intro xs j; rfl
  | cons u us ih => intro xs j; rw [putAt, ih, List.length_set]
theorem putAt_get (us : List Value) : ∀ (xs : List Value) (j i : Nat), j + us.length ≤ xs.length → (putAt xs j us)[i]? = if j ≤ i ∧ i < j + us.length then us[i - j]? else xs[i]? := by
  induction us with
  | nil =>
    intro xs j i _
    rw [if_neg (by simp only [List.length_nil]; omega)]
    rfl
  | cons u us ih =>
    intro xs j i h
    simp only [List.length_cons] at h ⊢
    rw [putAt, ih _ _ _ (by rw [List.length_set]; omega)]
    by_cases c : j = i
    · subst c
      rw [if_neg (by omega), if_pos (by omega), List.getElem?_set_self (by omega)]
      simp
    · by_cases c2 : j + 1 ≤ i ∧ i < j + 1 + us.length
      · rw [if_pos c2, if_pos (by omega)]
        obtain ⟨d, hd⟩ : ∃ d, i - j = d + 1 := ⟨i - j - 1, by omega⟩
        rw [hd, show i - (j + 1) = d by omega]
        rfl
      · rw [if_neg c2, if_neg (by omega), List.getElem?_set_ne c]
theorem putAt_cells (henc : ∀ x, (enc x).length = size) (l : List α) (k : Nat) (x : α) (hk : k < l.length) : putAt (cellsL enc l) (k * size) (enc x) = cellsL enc (l.set k x) := by
  have hl := cellsL_len henc l
  have hks : k * size + size ≤ l.length * size := by
    have : (k + 1) * size ≤ l.length * size := Nat.mul_le_mul_right _ hk
    rw [Nat.succ_mul] at this
    exact this
  apply List.ext_getElem?
  intro i
  rw [putAt_get _ _ _ _ (by rw [henc, hl]; exact hks), henc]
  rcases Nat.eq_zero_or_pos size with h0 | h0
  · subst h0
    rw [if_neg (by omega), List.getElem?_eq_none (by rw [hl]; omega), List.getElem?_eq_none (by rw [cellsL_len henc]; omega)]
  rcases Nat.lt_or_ge i (l.length * size) with hi | hi
  · have hd : i = i / size * size + i % size := by have := Nat.div_add_mod i size; rw [Nat.mul_comm] at this; omega
    have hm := Nat.mod_lt i h0
    have hdl : i / size < l.length := Nat.div_lt_of_lt_mul (by rw [Nat.mul_comm]; exact hi)
    obtain ⟨y, hy⟩ : ∃ y, l[i / size]? = some y := ⟨_, List.getElem?_eq_getElem hdl⟩
    by_cases c : i / size = k
    · have hset : (l.set k x)[i / size]? = some x := by rw [c, List.getElem?_set_self hk]
      have e := cellsL_at henc (l.set k x) (i / size) (i % size) x hset hm
      rw [← hd] at e
      rw [e, if_pos (by rw [← c]; omega), ← c]
      congr 1
      omega
    · have hset : (l.set k x)[i / size]? = some y := by rw [List.getElem?_set_ne (fun q => c q.symm), hy]
      have e := cellsL_at henc (l.set k x) (i / size) (i % size) y hset hm
      have e2 := cellsL_at henc l (i / size) (i % size) y hy hm
      rw [← hd] at e e2
      rw [e, e2, if_neg]
      rintro ⟨h1, h2⟩
      apply c
      rcases Nat.lt_trichotomy (i / size) k with q | q | q
      · have : (i / size + 1) * size ≤ k * size := Nat.mul_le_mul_right _ q
        rw [Nat.succ_mul] at this
        omega
      · exact q
      · have : (k + 1) * size ≤ i / size * size := Nat.mul_le_mul_right _ q
        rw [Nat.succ_mul] at this
        omega
  · rw [if_neg (by omega), List.getElem?_eq_none (by rw [hl]; omega), List.getElem?_eq_none (by rw [cellsL_len henc, List.length_set]; omega)]

theorem own_setCells {g cap n : Nat} (us : List Value) : ∀ (j : Nat) (w : World) (xs : List Value), w.ownsRow base e size (.slice (some ⟨g, 0, none⟩) n cap) n xs →
    (w.setCells g j us).ownsRow base e size (.slice (some ⟨g, 0, none⟩) n cap) n (putAt xs j us) ∧ w.grownBy (w.setCells g j us) (some g) := by
  induction us with
  | nil => intro j w xs h; exact ⟨h, World.grownBy.refl w _⟩
  | cons u us ih =>
    intro j w xs h
    obtain ⟨h1, h2⟩ := World.ownsRow.stored h j u
    obtain ⟨h3, h4⟩ := ih (j + 1) _ _ h1
    exact ⟨h3, h4.os.trans h2.os, h4.tape.trans h2.tape, h4.output.trans h2.output, Nat.le_trans h2.size h4.size, fun i hi hr => (h4.block i (Nat.lt_of_lt_of_le hi h2.size) hr).trans (h2.block i hi hr)⟩

/-- An element is stored in the place of one. -/
theorem Own.store {g cap : Nat} (henc : ∀ x, (enc x).length = size) (h : Own w base e size enc (.slice (some ⟨g, 0, none⟩) l.length cap) l) (k : Nat) (x : α) (hk : k < l.length) :
    Own (w.setCells g (k * size) (enc x)) base e size enc (.slice (some ⟨g, 0, none⟩) l.length cap) (l.set k x) ∧ w.grownBy (w.setCells g (k * size) (enc x)) (some g) := by
  obtain ⟨h1, h2⟩ := own_setCells (enc x) (k * size) w _ h
  rw [putAt_cells henc l k x hk] at h1
  refine ⟨?_, h2⟩
  unfold Own
  rw [List.length_set]
  exact h1
theorem Own.there {g cap : Nat} (henc : ∀ x, (enc x).length = size) (h : Own w base e size enc (.slice (some ⟨g, 0, none⟩) l.length cap) l) (k : Nat) (hk : k < l.length) : w.there g (k * size) size := by
  intro j hj
  obtain ⟨x, hx⟩ : ∃ x, l[k]? = some x := ⟨_, List.getElem?_eq_getElem hk⟩
  refine ⟨?_, h.free _⟩
  rw [h.at henc k j x hx hj, List.getElem?_eq_getElem (by rw [henc]; exact hj)]
  rfl

theorem wpList_append_lst {P : Program} {ops : Array Oper} {rest : List Oper} {o : Oper} {a : Act} {w : World} {Q : Exit → Act → World → Prop} (hgd : o.guard = none) (s x : Operand) (t : TypeId) (ho : o.op = .call { callee := .builtin .append, args := #[s, x], argTypes := #[t, t] })
    (v' : Value) (w' : World) (hrun : (Builtin.append_ #[t, t] o.type #[a.eval s, a.eval x]).run P w = .ok v' w') (h : wpList P ops Q rest (a.put o.dst v') w') : wpList P ops Q (o :: rest) a w :=
  wpList_plain hgd fun _ hK => wp_append_lst s x t ho v' w' hrun (hK _ _ h)
end
end Go.Proofs.Ytiophmmcennjnaa
