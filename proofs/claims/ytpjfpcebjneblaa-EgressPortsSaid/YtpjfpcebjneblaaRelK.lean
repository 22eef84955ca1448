/- A map's content, and a list that stands in the order of its keys. -/
import Derived.Test.YtpjfpcebjneblaaKeyL
import Derived.Test.YtpjfpcebjneblaaTbl
import Derived.Maps.RangeWalk
namespace Go.Proofs.Ytpjfpcebjneblaa
set_option linter.unusedVariables false

theorem getL_mem {κ ν : Type} [DecidableEq κ] (x : κ) : ∀ (L : List (κ × ν)), (L.map (·.1)).Nodup → ∀ n, getL x L = some n ↔ (x, n) ∈ L
  | [], _, n => by simp [getL]
  | y :: l, h, n => by
    simp only [List.map_cons, List.nodup_cons] at h
    unfold getL
    by_cases c : x = y.1
    · rw [if_pos c]
      constructor
      · intro e
        simp only [Option.some.injEq] at e
        rw [c, ← e]
        exact List.mem_cons_self
      · intro e
        rcases List.mem_cons.1 e with e | e
        · rw [← e]
        · exact absurd (List.mem_map.2 ⟨_, e, rfl⟩) (c ▸ h.1)
    · rw [if_neg c, getL_mem x l h.2 n]
      constructor
      · exact List.mem_cons_of_mem _
      · intro e
        rcases List.mem_cons.1 e with e | e
        · exact absurd (by rw [← e]) c
        · exact e
theorem putL_perm {κ ν : Type} [DecidableEq κ] (x : κ) (n : ν) : ∀ (L : List (κ × ν)), (L.map (·.1)).Nodup → (putL x n L).Perm ((x, n) :: L.filter (fun y => decide (¬ y.1 = x)))
  | [], _ => by simp [putL]
  | y :: l, h => by
    simp only [List.map_cons, List.nodup_cons] at h
    unfold putL
    by_cases c : x = y.1
    · rw [if_pos c, List.filter_cons_of_neg (by simp [c])]
      refine List.Perm.cons _ (.of_eq ?_)
      symm
      rw [List.filter_eq_self]
      intro z hz
      have : z.1 ≠ y.1 := fun e => h.1 (e ▸ List.mem_map.2 ⟨_, hz, rfl⟩)
      simp [c, this]
    · rw [if_neg c, List.filter_cons_of_pos (by simp [Ne.symm c])]
      exact (List.Perm.cons _ (putL_perm x n l h.2)).trans (List.Perm.swap _ _ _)

section
variable {α : Type} (key : α → Nat)
/-- They are the same; the list is in order. -/
def RelK (L : List (Nat × α)) (l : List α) : Prop := l.Pairwise (fun a b => key a < key b) ∧ L.Perm (l.map fun x => (key x, x))
variable {key}
theorem RelK.nil : RelK key [] [] := ⟨List.Pairwise.nil, List.Perm.refl _⟩
variable {L : List (Nat × α)} {l : List α}
theorem RelK.len (h : RelK key L l) : L.length = l.length := by simpa using h.2.length_eq
theorem pairK_inj (h : l.Pairwise (fun a b => key a < key b)) {i j : Nat} {x y : α} (hi : l[i]? = some x) (hj : l[j]? = some y) (e : key x = key y) : i = j := by
  obtain ⟨h1, rfl⟩ := List.getElem?_eq_some_iff.1 hi
  obtain ⟨h2, rfl⟩ := List.getElem?_eq_some_iff.1 hj
  rw [List.pairwise_iff_getElem] at h
  rcases Nat.lt_trichotomy i j with c | c | c
  · have := h i j h1 h2 c; omega
  · exact c
  · have := h j i h2 h1 c; omega
theorem keysK_nodup (h : l.Pairwise (fun a b => key a < key b)) : (l.map key).Nodup := by
  unfold List.Nodup
  rw [List.pairwise_map]
  exact h.imp (fun h => Nat.ne_of_lt h)
theorem RelK.nodup (h : RelK key L l) : (L.map (·.1)).Nodup := by
  have := (h.2.map (·.1)).nodup_iff.2 (by simpa [Function.comp_def] using keysK_nodup h.1)
  exact this
/-- What is found. -/
theorem RelK.get (h : RelK key L l) (v : Nat) :
    (atK key v l = -1 ∧ getL v L = none) ∨ ∃ (k : Nat) (x : α), atK key v l = k ∧ l[k]? = some x ∧ key x = v ∧ getL v L = some x := by
  rcases atK_cases key v l with ⟨h1, h2⟩ | ⟨k, x, h1, h2, h3⟩
  · refine .inl ⟨h1, ?_⟩
    cases hg : getL v L with
    | none => rfl
    | some n =>
      have := h.2.mem_iff.1 ((getL_mem v L h.nodup n).1 hg)
      obtain ⟨y, hy, e⟩ := List.mem_map.1 this
      simp only [Prod.mk.injEq] at e
      exact absurd e.1 (h2 y hy)
  · exact .inr ⟨k, x, h1, h2, h3, (getL_mem v L h.nodup x).2 (h.2.mem_iff.2 (List.mem_map.2 ⟨x, List.mem_of_getElem? h2, by rw [h3]⟩))⟩
theorem eraseK_filter (h : l.Pairwise (fun a b => key a < key b)) {k : Nat} {x : α} (hk : l[k]? = some x) : l.eraseIdx k = l.filter (fun y => decide (¬ key y = key x)) := by
  obtain ⟨h1, rfl⟩ := List.getElem?_eq_some_iff.1 hk
  have e : l = l.take k ++ l[k] :: l.drop (k + 1) := by rw [List.getElem_cons_drop, List.take_append_drop]
  have hne : ∀ y ∈ l.take k ++ l.drop (k + 1), key y ≠ key l[k] := by
    intro y hy
    rw [e, List.pairwise_append, List.pairwise_cons] at h
    rcases List.mem_append.1 hy with hy | hy
    · exact Nat.ne_of_lt (h.2.2 y hy _ List.mem_cons_self)
    · exact Nat.ne_of_gt (h.2.1.1 y hy)
  rw [List.eraseIdx_eq_take_drop_succ]
  have : l.filter (fun y => decide (¬ key y = key l[k])) = (l.take k ++ l[k] :: l.drop (k + 1)).filter (fun y => decide (¬ key y = key l[k])) := by rw [← e]
  rw [this, List.filter_append, List.filter_cons_of_neg (by simp), ← List.filter_append, List.filter_eq_self.2]
  intro y hy
  simpa using hne y hy
theorem filterK_pairs (l : List α) (v : Nat) : (l.map fun x => (key x, x)).filter (fun y => decide (¬ y.1 = v)) = (l.filter (fun y => decide (¬ key y = v))).map fun x => (key x, x) := by
  rw [List.filter_map]; rfl
theorem cutK_filter (h : l.Pairwise (fun a b => key a < key b)) (v : Nat) : cutK key v l = l.filter (fun y => decide (¬ key y = v)) := by
  unfold cutK
  rcases atK_cases key v l with ⟨h1, h2⟩ | ⟨k, x, h1, h2, h3⟩
  · rw [h1, if_pos (by omega)]
    symm
    rw [List.filter_eq_self]
    intro y hy
    simpa using h2 y hy
  · rw [h1, if_neg (by omega), Int.toNat_natCast, eraseK_filter h h2, h3]
/-- Without one. -/
theorem RelK.drop (h : RelK key L l) (v : Nat) : RelK key (delL v L) (cutK key v l) := by
  rw [cutK_filter h.1]
  refine ⟨h.1.filter _, ?_⟩
  rw [delL_filter v L h.nodup, ← filterK_pairs]
  exact h.2.filter _
/-- One laid in among others that have other keys. -/
theorem layK_sorted (hs : l.Pairwise (fun a b => key a < key b)) (x : α) (hn : ∀ y ∈ l, key y ≠ key x) : (layK key l x).Pairwise (fun a b => key a < key b) ∧ (layK key l x).Perm (x :: l) := by
  unfold layK
  obtain ⟨p1, p2, p3⟩ := posK_spec key (key x) l
  generalize posK key (key x) l = k at p1 p2 p3
  constructor
  · rw [List.append_assoc, List.pairwise_append]
    refine ⟨hs.sublist (List.take_sublist _ _), ?_, ?_⟩
    · simp only [List.cons_append, List.nil_append, List.pairwise_cons]
      refine ⟨?_, hs.sublist (List.drop_sublist _ _)⟩
      intro y hy
      obtain ⟨i, hi, rfl⟩ := List.mem_iff_getElem.1 hy
      rw [List.length_drop] at hi
      rw [List.getElem_drop]
      have hk : k < l.length := by omega
      have q := p3 l[k] (List.getElem?_eq_getElem hk)
      have n := hn l[k] (List.getElem_mem hk)
      rcases Nat.eq_zero_or_pos i with rfl | hp
      · simp only [Nat.add_zero]; omega
      · have := List.pairwise_iff_getElem.1 hs k (k + i) hk (by omega) (by omega)
        omega
    · intro a ha b hb
      obtain ⟨i, hi, rfl⟩ := List.mem_iff_getElem.1 ha
      rw [List.length_take] at hi
      have ai := p2 i ((l.take k)[i]'(by rw [List.length_take]; exact hi)) (by omega) (by rw [List.getElem_take]; exact List.getElem?_eq_getElem (by omega))
      simp only [List.cons_append, List.nil_append, List.mem_cons] at hb
      rcases hb with rfl | hb
      · exact ai
      · obtain ⟨m, hm, rfl⟩ := List.mem_iff_getElem.1 hb
        rw [List.length_drop] at hm
        rw [List.getElem_drop, List.getElem_take]
        exact List.pairwise_iff_getElem.1 hs i (k + m) (by omega) (by omega) (by omega)
  · rw [List.append_assoc]
    simp only [List.cons_append, List.nil_append]
    refine List.perm_middle.trans (List.Perm.cons _ (.of_eq (List.take_append_drop _ _)))
/-- One in the place of another one with its key. -/
theorem setK_sorted (hs : l.Pairwise (fun a b => key a < key b)) {k : Nat} {z x : α} (hk : l[k]? = some z) (e : key z = key x) : (l.set k x).Pairwise (fun a b => key a < key b) ∧ (l.set k x).Perm (x :: l.filter (fun y => decide (¬ key y = key x))) := by
  have hlt := (List.getElem?_eq_some_iff.1 hk).1
  constructor
  · rw [List.pairwise_iff_getElem]
    intro i j hi hj hij
    rw [List.length_set] at hi hj
    have := List.pairwise_iff_getElem.1 hs i j hi hj hij
    have hz : l[k] = z := (List.getElem?_eq_some_iff.1 hk).2
    rw [List.getElem_set, List.getElem_set]
    split <;> split <;> subst_vars <;> simp_all <;> omega
  · rw [← e, ← eraseK_filter hs hk, List.set_eq_take_append_cons_drop, if_pos hlt, List.eraseIdx_eq_take_drop_succ]
    exact List.perm_middle
theorem RelK.put_of (h : RelK key L l) (x : α) {l' : List α} (h1 : l'.Pairwise (fun a b => key a < key b)) (h2 : l'.Perm (x :: l.filter (fun y => decide (¬ key y = key x)))) : RelK key (putL (key x) x L) l' := by
  refine ⟨h1, ?_⟩
  refine (putL_perm (key x) x L h.nodup).trans ?_
  refine ((h.2.filter _).cons _).trans ?_
  rw [filterK_pairs]
  exact (h2.map (fun x => (key x, x))).symm
/-- With a new one. -/
theorem RelK.lay (h : RelK key L l) (x : α) (hn : ∀ y ∈ l, key y ≠ key x) : RelK key (putL (key x) x L) (layK key l x) := by
  have q := layK_sorted h.1 x hn
  refine h.put_of x q.1 ?_
  rw [List.filter_eq_self.2 (fun y hy => by simpa using hn y hy)]
  exact q.2
/-- With one in the place of another one. -/
theorem RelK.set (h : RelK key L l) (x : α) {k : Nat} {z : α} (hk : l[k]? = some z) (e : key z = key x) : RelK key (putL (key x) x L) (l.set k x) := by
  have q := setK_sorted h.1 hk e
  exact h.put_of x q.1 q.2
/-- Any arrangement of what the map has that is in order is the list. -/
theorem RelK.sorted (h : RelK key L l) {l' : List α} (hp : l'.Perm (L.map (·.2))) (hs : l'.Pairwise (fun a b => key a ≤ key b)) : l' = l := by
  have hq : l'.Perm l := hp.trans (by simpa [Function.comp_def] using h.2.map (·.2))
  have hl : l.Pairwise (fun a b => key a ≤ key b) := h.1.imp Nat.le_of_lt
  refine List.Perm.eq_of_pairwise ?_ hs hl hq
  intro a b ha hb h1 h2
  have e : key a = key b := Nat.le_antisymm h1 h2
  obtain ⟨i, hi, rfl⟩ := List.mem_iff_getElem.1 (hq.mem_iff.1 ha)
  obtain ⟨j, hj, rfl⟩ := List.mem_iff_getElem.1 hb
  have := pairK_inj h.1 (List.getElem?_eq_getElem hi) (List.getElem?_eq_getElem hj) e
  subst this
  rfl
/-- What is in the map is in the list. -/
theorem RelK.mem (h : RelK key L l) {y : Nat × α} (hy : y ∈ L) : y.1 = key y.2 ∧ y.2 ∈ l := by
  obtain ⟨x, hx, rfl⟩ := List.mem_map.1 (h.2.mem_iff.1 hy)
  exact ⟨rfl, hx⟩
end
theorem It.left_eq {κ ν : Type} {w : World} {r b : Nat} {kv : κ → Value} {vv : ν → Value} {L left : List (κ × ν)} (h : It w r b kv vv L left) : w.rangeLeft b r = left.length := by
  obtain ⟨es, clock, since, c0, seen, hr, hb, -, -, -, -, -, -, hl, -⟩ := h
  simp only [World.rangeLeft, hb, hr]
  have := congrArg List.length hl
  simpa using this
theorem perm_left {α : Type} {L left : List (Nat × α)} {pre : List α} {j : Nat} {x : Nat} {n : α} (h : (pre ++ left.map (·.2)).Perm (L.map (·.2))) (hj : left[j]? = some (x, n)) : (pre ++ [n] ++ (left.eraseIdx j).map (·.2)).Perm (L.map (·.2)) := by
  refine List.Perm.trans ?_ h
  rw [List.append_assoc]
  refine List.Perm.append_left pre ?_
  obtain ⟨hlt, e⟩ := List.getElem?_eq_some_iff.1 hj
  have : left = left.take j ++ (x, n) :: left.drop (j + 1) := by rw [← e, List.getElem_cons_drop, List.take_append_drop]
  rw [List.eraseIdx_eq_take_drop_succ]
  have e2 : left.map (·.2) = (left.take j ++ (x, n) :: left.drop (j + 1)).map (·.2) := by rw [← this]
  rw [e2]
  simp only [List.map_append, List.map_cons, List.cons_append, List.nil_append]
  exact List.perm_middle.symm
end Go.Proofs.Ytpjfpcebjneblaa
