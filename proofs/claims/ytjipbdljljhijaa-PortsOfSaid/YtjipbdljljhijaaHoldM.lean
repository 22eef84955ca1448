/- PortsHold, walked. -/
import Derived.Test.YtjipbdljljhijaaCnt
import Derived.Test.YtjipbdljljhijaaWW
import Derived.Test.YtjipbdljljhijaaQuietly
namespace Go.Proofs.Ytjipbdljljhijaa
open Go.RowKit Go.Shelf
set_option linter.unusedSimpArgs false
set_option linter.unusedVariables false
attribute [local go_sem] Oper.semAt_some
attribute [local irreducible] wpQuiet

theorem Kn.upd {w0 w : World} {l : List (Nat × Array Value × TypeId)} {c : Nat} {a : Array Value} {t : TypeId} (h : Kn w0 l w) (i : Nat) (e : l[i]? = some (c, a, t)) (hd : ∀ x ∈ l.eraseIdx i, x.1 ≠ c) (h0 : w0.heap.size ≤ c) (j : Nat) (v : Value) :
    Kn w0 (l.set i (c, a.setIfInBounds j v, t)) (w.setCell ⟨c, j, none⟩ v) := by
  refine ⟨fun x hx => ?_, h.below.setCell h0 _⟩
  obtain ⟨k, hk⟩ := List.getElem?_of_mem hx
  by_cases q : i = k
  · subst q
    rw [List.getElem?_set_self (List.getElem?_eq_some_iff.1 e).1] at hk
    cases hk
    exact (h.at i e).set j v
  · rw [List.getElem?_set_ne q] at hk
    have hm := hd x (List.mem_eraseIdx_iff_getElem?.2 ⟨k, fun q2 => q q2.symm, hk⟩)
    exact (h.all x (List.mem_of_getElem? hk)).other (a := ⟨c, j, none⟩) (fun q2 => hm q2.symm) v

/-- Ports of a set, rising. -/
def okL (s : Nat) (l : List Int) : Prop := l.Pairwise (· < ·) ∧ ∀ x ∈ l, 0 < x ∧ hasB s x = true
def lastL (l : List Int) : Int := l.getLastD 0
theorem lastL_snoc (l : List Int) (x : Int) : lastL (l ++ [x]) = x := by simp [lastL]
theorem le_last {s : Nat} {l : List Int} (h : okL s l) : ∀ y ∈ l, y ≤ lastL l := by
  intro y hy
  rcases List.eq_nil_or_concat l with rfl | ⟨l', z, rfl⟩
  · cases hy
  · rw [List.concat_eq_append] at hy h ⊢
    rw [lastL_snoc]
    rcases List.mem_append.1 hy with hy | hy
    · have := (List.pairwise_append.1 h.1).2.2 y hy z (by simp)
      omega
    · simp only [List.mem_singleton] at hy
      omega
theorem last_mem {l : List Int} (h : l ≠ []) : lastL l ∈ l := by
  rcases List.eq_nil_or_concat l with rfl | ⟨l', z, rfl⟩
  · exact absurd rfl h
  · rw [List.concat_eq_append, lastL_snoc]; simp
theorem okL_snoc {s : Nat} {l : List Int} {x : Int} (h : okL s l) (h1 : lastL l < x) (h2 : hasB s x = true) : okL s (l ++ [x]) := by
  refine ⟨List.pairwise_append.2 ⟨h.1, by simp, fun y hy z hz => ?_⟩, fun y hy => ?_⟩
  · simp only [List.mem_singleton] at hz
    have := le_last h y hy
    omega
  · rcases List.mem_append.1 hy with hy | hy
    · exact h.2 y hy
    · simp only [List.mem_singleton] at hy
      subst hy
      refine ⟨?_, h2⟩
      have : isPort y = true := by
        cases c : isPort y with
        | true => rfl
        | false => rw [hasB_no c] at h2; cases h2
      unfold isPort at this
      simp at this
      omega
theorem okL_not {s : Nat} {l : List Int} {x : Int} (h : x ≤ lastL l ∨ hasB s x = false) : ¬ okL s (l ++ [x]) := by
  intro c
  rcases h with h | h
  · by_cases hl : l = []
    · subst hl
      have := (c.2 x (by simp)).1
      simp [lastL] at h
      omega
    · have := (List.pairwise_append.1 c.1).2.2 _ (last_mem hl) x (by simp)
      omega
  · have := (c.2 x (by simp)).2
    rw [h] at this
    cases this
theorem okL_upto (s : Nat) : ∀ k, okL s (upto s k) ∧ ∀ y ∈ upto s k, y ≤ k
  | 0 => ⟨⟨List.Pairwise.nil, fun x hx => (by cases hx)⟩, fun x hx => (by cases hx)⟩
  | k + 1 => by
    obtain ⟨h1, h2⟩ := okL_upto s k
    cases q : hasB s ((k : Int) + 1) with
    | false =>
      rw [upto_no q]
      exact ⟨h1, fun y hy => by have := h2 y hy; omega⟩
    | true =>
      rw [upto_yes q]
      refine ⟨okL_snoc h1 ?_ q, fun y hy => ?_⟩
      · by_cases c : upto s k = []
        · rw [c]; show (0 : Int) < (k : Int) + 1; omega
        · have := h2 _ (last_mem c); omega
      · rcases List.mem_append.1 hy with hy | hy
        · have := h2 y hy; omega
        · simp only [List.mem_singleton] at hy; omega
theorem okL_prefix {s : Nat} {l l' : List Int} (h : okL s l') (hp : l <+: l') : okL s l := ⟨h.1.sublist hp.sublist, fun x hx => h.2 x (hp.subset hx)⟩

/-- How many of the first k questions (from -1 on) are answered yes; are all of them answered so by t, too? -/
def cntL (s k : Nat) : Nat := ((List.range k).filter fun j : Nat => hasB s ((j : Int) - 1)).length
theorem cntL_yes {s k : Nat} (h : hasB s ((k : Int) - 1) = true) : cntL s (k + 1) = cntL s k + 1 := by
  unfold cntL
  rw [List.range_succ, List.filter_append, List.length_append]
  simp [h]
theorem cntL_no {s k : Nat} (h : hasB s ((k : Int) - 1) = false) : cntL s (k + 1) = cntL s k := by
  unfold cntL
  rw [List.range_succ, List.filter_append, List.length_append]
  simp [h]
theorem cntL_le (s k : Nat) : cntL s k ≤ k := by
  unfold cntL
  exact Nat.le_trans (List.length_filter_le _ _) (by simp)
theorem cntL_all (s : Nat) : cntL s 42 = (portsL s).length := by
  have e : List.range 42 = [0, 1] ++ ((List.range 16).map (· + 2) ++ (List.range 24).map (· + 18)) := by decide
  unfold cntL portsL upto
  rw [e, List.filter_append, List.filter_append]
  have e1 : [0, 1].filter (fun j : Nat => hasB s ((j : Int) - 1)) = [] := by
    rw [List.filter_eq_nil_iff]
    intro j hj
    simp only [List.mem_cons, List.not_mem_nil, or_false] at hj
    rw [hasB_low (by omega)]
    simp
  have e2 : ((List.range 24).map (· + 18)).filter (fun j : Nat => hasB s ((j : Int) - 1)) = [] := by
    rw [List.filter_eq_nil_iff]
    intro j hj
    obtain ⟨i, -, rfl⟩ := List.mem_map.1 hj
    rw [hasB_high (by omega)]
    simp
  rw [e1, e2, List.nil_append, List.append_nil, List.filter_map, List.filter_map, List.length_map, List.length_map]
  congr 2
  funext j
  simp only [Function.comp]
  congr 1
  omega
theorem within_iff (s t : Nat) : withinB s t = true ↔ ∀ j : Nat, j < 42 → hasB s ((j : Int) - 1) = true → hasB t ((j : Int) - 1) = true := by
  unfold withinB
  rw [List.all_eq_true]
  constructor
  · intro h j hj hs
    rcases port_cases ((j : Int) - 1) with c | ⟨k, hk, e⟩
    · rw [hasB_no c] at hs; cases hs
    · refine h _ ?_
      unfold portsL upto
      rw [List.mem_filter]
      refine ⟨List.mem_map.2 ⟨k, List.mem_range.2 hk, e.symm⟩, hs⟩
  · intro h x hx
    unfold portsL upto at hx
    rw [List.mem_filter] at hx
    obtain ⟨k, hk, rfl⟩ := List.mem_map.1 hx.1
    have := h (k + 2) (by have := List.mem_range.1 hk; omega)
    rw [show ((k + 2 : Nat) : Int) - 1 = (k : Int) + 1 by omega] at this
    exact this hx.2
end Go.Proofs.Ytjipbdljljhijaa
