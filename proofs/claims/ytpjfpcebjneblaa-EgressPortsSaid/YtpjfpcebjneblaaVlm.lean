/- A map's content of VLANs, and the document's list of them, that stands by their numbers. -/
import Derived.Test.YtpjfpcebjneblaaRef8c
import Derived.Test.YtpjfpcebjneblaaTbl
import Derived.Test.YtpjfpcebjneblaaRelK
namespace Go.Proofs.Ytpjfpcebjneblaa

/-- They are the same VLANs; the list is in order. -/
def Rel (L : List (Nat × Vl)) (l : List Vl) : Prop := l.Pairwise (fun a b => a.vid < b.vid) ∧ L.Perm (l.map fun x => (x.vid, x))

theorem Rel.nil : Rel [] [] := ⟨List.Pairwise.nil, List.Perm.refl _⟩
theorem Rel.len {L : List (Nat × Vl)} {l : List Vl} (h : Rel L l) : L.length = l.length := by simpa using h.2.length_eq

theorem Pairwise.inj {l : List Vl} (h : l.Pairwise (fun a b => a.vid < b.vid)) {i j : Nat} {x y : Vl} (hi : l[i]? = some x) (hj : l[j]? = some y) (e : x.vid = y.vid) : i = j := by
  obtain ⟨h1, rfl⟩ := List.getElem?_eq_some_iff.1 hi
  obtain ⟨h2, rfl⟩ := List.getElem?_eq_some_iff.1 hj
  rw [List.pairwise_iff_getElem] at h
  rcases Nat.lt_trichotomy i j with c | c | c
  · have := h i j h1 h2 c; omega
  · exact c
  · have := h j i h2 h1 c; omega

theorem keys_nodup {l : List Vl} (h : l.Pairwise (fun a b => a.vid < b.vid)) : (l.map (·.vid)).Nodup := by
  unfold List.Nodup
  rw [List.pairwise_map]
  exact h.imp (fun h => Nat.ne_of_lt h)

theorem Rel.nodup {L : List (Nat × Vl)} {l : List Vl} (h : Rel L l) : (L.map (·.1)).Nodup := by
  have := (h.2.map (·.1)).nodup_iff.2 (by simpa [Function.comp_def] using keys_nodup h.1)
  exact this

/-- What At says: there is one, or there is none. -/
theorem atV_cases (vid : Nat) : ∀ l : List Vl, (atV vid l = -1 ∧ ∀ y ∈ l, y.vid ≠ vid) ∨ ∃ (k : Nat) (x : Vl), atV vid l = k ∧ l[k]? = some x ∧ x.vid = vid
  | [] => .inl ⟨rfl, by simp⟩
  | y :: l => by
    unfold atV
    by_cases c : y.vid = vid
    · rw [if_pos c]; exact .inr ⟨0, y, rfl, rfl, c⟩
    · rw [if_neg c]
      rcases atV_cases vid l with ⟨h, h2⟩ | ⟨k, x, h, h2, h3⟩
      · rw [h]
        refine .inl ⟨by simp, ?_⟩
        intro z hz
        rcases List.mem_cons.1 hz with rfl | hz
        · exact c
        · exact h2 z hz
      · rw [h, if_neg (by omega)]
        exact .inr ⟨k + 1, x, by omega, by simpa using h2, h3⟩

/-- What is found. -/
theorem Rel.get {L : List (Nat × Vl)} {l : List Vl} (h : Rel L l) (vid : Nat) :
    (atV vid l = -1 ∧ getL vid L = none) ∨ ∃ (k : Nat) (x : Vl), atV vid l = k ∧ l[k]? = some x ∧ x.vid = vid ∧ getL vid L = some x := by
  rcases atV_cases vid l with ⟨h1, h2⟩ | ⟨k, x, h1, h2, h3⟩
  · refine .inl ⟨h1, ?_⟩
    cases hg : getL vid L with
    | none => rfl
    | some n =>
      have := h.2.mem_iff.1 ((getL_mem vid L h.nodup n).1 hg)
      obtain ⟨y, hy, e⟩ := List.mem_map.1 this
      simp only [Prod.mk.injEq] at e
      exact absurd e.1 (h2 y hy)
  · refine .inr ⟨k, x, h1, h2, h3, (getL_mem vid L h.nodup x).2 (h.2.mem_iff.2 (List.mem_map.2 ⟨x, List.mem_of_getElem? h2, by rw [h3]⟩))⟩

theorem erase_filter {l : List Vl} (h : l.Pairwise (fun a b => a.vid < b.vid)) {k : Nat} {x : Vl} (hk : l[k]? = some x) : l.eraseIdx k = l.filter (fun y => decide (¬ y.vid = x.vid)) := by
  obtain ⟨h1, rfl⟩ := List.getElem?_eq_some_iff.1 hk
  have e : l = l.take k ++ l[k] :: l.drop (k + 1) := by rw [List.getElem_cons_drop, List.take_append_drop]
  have hne : ∀ y ∈ l.take k ++ l.drop (k + 1), y.vid ≠ l[k].vid := by
    intro y hy
    rw [e, List.pairwise_append, List.pairwise_cons] at h
    rcases List.mem_append.1 hy with hy | hy
    · exact Nat.ne_of_lt (h.2.2 y hy _ List.mem_cons_self)
    · exact Nat.ne_of_gt (h.2.1.1 y hy)
  rw [List.eraseIdx_eq_take_drop_succ]
  have : l.filter (fun y => decide (¬ y.vid = l[k].vid)) = (l.take k ++ l[k] :: l.drop (k + 1)).filter (fun y => decide (¬ y.vid = l[k].vid)) := by rw [← e]
  rw [this, List.filter_append, List.filter_cons_of_neg (by simp), ← List.filter_append, List.filter_eq_self.2]
  intro y hy
  simpa using hne y hy

theorem filter_pairs (l : List Vl) (vid : Nat) : (l.map fun x => (x.vid, x)).filter (fun y => decide (¬ y.1 = vid)) = (l.filter (fun y => decide (¬ y.vid = vid))).map fun x => (x.vid, x) := by
  rw [List.filter_map]; rfl

/-- Without one. -/
theorem Rel.drop {L : List (Nat × Vl)} {l : List Vl} (h : Rel L l) (vid : Nat) : Rel (delL vid L) (dropV l vid) := by
  have e : dropV l vid = l.filter (fun y => decide (¬ y.vid = vid)) := by
    unfold dropV
    rcases atV_cases vid l with ⟨h1, h2⟩ | ⟨k, x, h1, h2, h3⟩
    · rw [h1, if_pos (by omega)]
      symm
      rw [List.filter_eq_self]
      intro y hy
      simpa using h2 y hy
    · rw [h1, if_neg (by omega), Int.toNat_natCast, erase_filter h.1 h2, h3]
  rw [e]
  refine ⟨h.1.filter _, ?_⟩
  rw [delL_filter vid L h.nodup, ← filter_pairs]
  exact h.2.filter _

/-- With one that may be. -/
theorem Rel.put {L : List (Nat × Vl)} {l : List Vl} (h : Rel L l) (x : Vl) (hg : goodV x = 0) (hr : 0 ≤ atV x.vid l ∨ l.length < 16) : Rel (putL x.vid x L) (setV l x) := by
  have key : (setV l x).Pairwise (fun a b => a.vid < b.vid) ∧ (setV l x).Perm (x :: l.filter (fun y => decide (¬ y.vid = x.vid))) := by
    unfold setV
    rw [if_neg (by simp [hg])]
    rcases atV_cases x.vid l with ⟨h1, h2⟩ | ⟨k, z, h1, h2, h3⟩
    · rw [h1, if_neg (by omega), if_neg (by omega)]
      have hf : l.filter (fun y => decide (¬ y.vid = x.vid)) = l := by
        rw [List.filter_eq_self]
        intro y hy
        simpa using h2 y hy
      rw [hf]
      obtain ⟨p1, p2, p3⟩ := posV_spec x.vid l
      generalize posV x.vid l = k at p1 p2 p3
      constructor
      · have hs := h.1
        rw [List.append_assoc, List.pairwise_append]
        refine ⟨hs.sublist (List.take_sublist _ _), ?_, ?_⟩
        · simp only [List.cons_append, List.nil_append, List.pairwise_cons]
          refine ⟨?_, hs.sublist (List.drop_sublist _ _)⟩
          intro y hy
          obtain ⟨i, hi, rfl⟩ := List.mem_iff_getElem.1 hy
          rw [List.length_drop] at hi
          rw [List.getElem_drop]
          have hk : k < l.length := by omega
          have q := p3 l[k] (List.getElem?_eq_getElem hk)
          have n := h2 l[k] (List.getElem_mem hk)
          rcases Nat.eq_zero_or_pos i with rfl | hp
          · simp only [Nat.add_zero]; omega
          · have := List.pairwise_iff_getElem.1 hs k (k + i) hk (by omega) (by omega)
            omega
        · intro a ha b hb
          obtain ⟨i, hi, rfl⟩ := List.mem_iff_getElem.1 ha
          rw [List.length_take] at hi
          have ai := p2 i ((l.take k)[i]'(by rw [List.length_take]; exact hi)) (by omega) (by rw [List.getElem_take]; exact List.getElem?_eq_getElem (by omega))
          simp only [List.cons_append, List.nil_append, List.mem_cons] at hb
          rcases hb with rfl | hb
          · exact ai
          · obtain ⟨m, hm, rfl⟩ := List.mem_iff_getElem.1 hb
            rw [List.length_drop] at hm
            rw [List.getElem_drop, List.getElem_take]
            exact List.pairwise_iff_getElem.1 hs i (k + m) (by omega) (by omega) (by omega)
      · rw [List.append_assoc]
        simp only [List.cons_append, List.nil_append]
        refine List.perm_middle.trans (List.Perm.cons _ (.of_eq (List.take_append_drop _ _)))
    · rw [h1, if_pos (by omega), Int.toNat_natCast]
      have hk := (List.getElem?_eq_some_iff.1 h2).1
      constructor
      · rw [List.pairwise_iff_getElem]
        intro i j hi hj hij
        rw [List.length_set] at hi hj
        have := List.pairwise_iff_getElem.1 h.1 i j hi hj hij
        have hz : l[k] = z := (List.getElem?_eq_some_iff.1 h2).2
        rw [List.getElem_set, List.getElem_set]
        split <;> split <;> subst_vars <;> simp_all <;> omega
      · rw [← h3, ← erase_filter h.1 h2, List.set_eq_take_append_cons_drop, if_pos hk, List.eraseIdx_eq_take_drop_succ]
        exact List.perm_middle
  refine ⟨key.1, ?_⟩
  refine (putL_perm x.vid x L h.nodup).trans ?_
  refine ((h.2.filter _).cons _).trans ?_
  rw [filter_pairs]
  exact (key.2.map (fun x => (x.vid, x))).symm

/-- Any arrangement of the map's VLANs that is in order is the list. -/
theorem Rel.sorted {L : List (Nat × Vl)} {l l' : List Vl} (h : Rel L l) (hp : l'.Perm (L.map (·.2))) (hs : l'.Pairwise (fun a b => a.vid ≤ b.vid)) : l' = l := by
  have hq : l'.Perm l := hp.trans (by simpa [Function.comp_def] using h.2.map (·.2))
  have hn : (l'.map (·.vid)).Nodup := (hq.map (·.vid)).nodup_iff.2 (keys_nodup h.1)
  have hl : l.Pairwise (fun a b => a.vid ≤ b.vid) := h.1.imp Nat.le_of_lt
  refine List.Perm.eq_of_pairwise ?_ hs hl hq
  intro a b ha hb h1 h2
  have e : a.vid = b.vid := Nat.le_antisymm h1 h2
  obtain ⟨i, hi, rfl⟩ := List.mem_iff_getElem.1 (hq.mem_iff.1 ha)
  obtain ⟨j, hj, rfl⟩ := List.mem_iff_getElem.1 hb
  have := Pairwise.inj h.1 (List.getElem?_eq_getElem hi) (List.getElem?_eq_getElem hj) e
  subst this
  rfl
end Go.Proofs.Ytpjfpcebjneblaa
