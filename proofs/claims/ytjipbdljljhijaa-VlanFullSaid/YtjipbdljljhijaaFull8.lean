/- As many VLANs as there may be: the lists. -/
import Derived.Test.YtjipbdljljhijaaVlm
import Derived.Test.YtjipbdljljhijaaOf
namespace Go.Proofs.Ytjipbdljljhijaa
open Go.RowKit
set_option linter.unusedSimpArgs false
set_option linter.unusedVariables false

/-- The first k VLANs. -/
def flL (f k : Nat) : List Vl := (List.range k).map fun j => ⟨f + j, 2 ^ (j % 16), 0⟩
theorem flL_len (f k : Nat) : (flL f k).length = k := by simp [flL]
theorem flL_snoc (f k : Nat) : flL f (k + 1) = flL f k ++ [⟨f + k, 2 ^ (k % 16), 0⟩] := by simp [flL, List.range_succ]
theorem flL_mem {f k : Nat} {x : Vl} (h : x ∈ flL f k) : f ≤ x.vid ∧ x.vid < f + k := by
  unfold flL at h
  obtain ⟨j, hj, rfl⟩ := List.mem_map.1 h
  have := List.mem_range.1 hj
  constructor
  · show f ≤ f + j
    omega
  · show f + j < f + k
    omega
theorem at_no {l : List Vl} {v : Nat} (h : ∀ x ∈ l, x.vid ≠ v) : atV v l = -1 := by
  rcases atV_cases v l with ⟨e, -⟩ | ⟨k, x, -, hk, hx⟩
  · exact e
  · exact absurd hx (h x (List.mem_of_getElem? hk))
theorem posV_end {l : List Vl} {v : Nat} (h : ∀ x ∈ l, x.vid < v) : posV v l = l.length := by
  obtain ⟨p1, -, p3⟩ := posV_spec v l
  rcases Nat.lt_or_ge (posV v l) l.length with c | c
  · have := p3 l[posV v l] (List.getElem?_eq_getElem c)
    have := h _ (List.getElem_mem c)
    omega
  · omega
theorem subB_zero (m : Nat) : subB m 0 = true := by
  unfold subB
  rw [List.all_eq_true]
  intro i _
  simp
theorem pow16 (j : Nat) : 2 ^ (j % 16) < 65536 := pow_k _ (Nat.mod_lt _ (by omega))
theorem good_fl (f k : Nat) (h : 1 ≤ f) (h2 : f + k ≤ 4094) : goodV ⟨f + k, 2 ^ (k % 16), 0⟩ = 0 := by
  unfold goodV
  have := pow16 k
  rw [if_neg (by simp only; omega), if_neg (by simp only; omega), if_pos (subB_zero _)]
theorem fl_at (f k m : Nat) (h : m ≤ k) : atV (f + k) (flL f m) = -1 := at_no fun x hx => by have := flL_mem hx; omega
theorem set_fl (f k : Nat) (h : 1 ≤ f) (h2 : f + k ≤ 4094) (hk : k < 16) : setV (flL f k) ⟨f + k, 2 ^ (k % 16), 0⟩ = flL f (k + 1) ∧ setVE (flL f k) ⟨f + k, 2 ^ (k % 16), 0⟩ = 0 := by
  have hg := good_fl f k h h2
  have ha := fl_at f k k (Nat.le_refl _)
  have hp : posV (f + k) (flL f k) = k := (posV_end fun x hx => (flL_mem hx).2).trans (flL_len f k)
  constructor
  · unfold setV
    simp only
    rw [if_neg (by rw [hg]; simp), ha, if_neg (by omega), flL_len, if_neg (by omega), hp, List.take_of_length_le (by rw [flL_len]; omega), List.drop_eq_nil_of_le (by rw [flL_len]; omega), flL_snoc]
    simp
  · unfold setVE
    simp only
    rw [if_neg (by rw [hg]; simp), ha, if_neg (by omega), flL_len, if_neg (by omega)]
theorem set_fl_full (f k : Nat) (h : 1 ≤ f) (h2 : f + k ≤ 4094) (hk : 16 ≤ k) : setV (flL f 16) ⟨f + k, 2 ^ (k % 16), 0⟩ = flL f 16 ∧ setVE (flL f 16) ⟨f + k, 2 ^ (k % 16), 0⟩ = 13 := by
  have hg := good_fl f k h h2
  have ha := fl_at f k 16 hk
  constructor
  · unfold setV
    simp only
    rw [if_neg (by rw [hg]; simp), ha, if_neg (by omega), flL_len, if_pos (by omega)]
  · unfold setVE
    simp only
    rw [if_neg (by rw [hg]; simp), ha, if_neg (by omega), flL_len, if_pos (by omega)]
theorem of_one (j : Nat) : ofS [1 + ((j % 16 : Nat) : Int)] = 2 ^ (j % 16) := by
  have hj : j % 16 < 16 := Nat.mod_lt _ (by omega)
  generalize j % 16 = q at *
  unfold ofS
  simp only [List.foldl_cons, List.foldl_nil]
  unfold withS
  rw [show (1 : Int) + (q : Int) = (q : Int) + 1 by omega, isPort_at q hj, if_pos rfl, show ((q : Int) + 1 - 1).toNat = q by omega, Nat.zero_or]

/-- The first one again, and without it. -/
theorem fl_head (f k : Nat) (hk : 0 < k) : ∃ (y : Vl) (tl : List Vl), flL f k = y :: tl ∧ y.vid = f ∧ (∀ z ∈ tl, z.vid ≠ f) ∧ tl.length = k - 1 := by
  obtain ⟨n, rfl⟩ : ∃ n, k = n + 1 := ⟨k - 1, by omega⟩
  refine ⟨⟨f + 0, 2 ^ (0 % 16), 0⟩, (List.range n).map fun j => ⟨f + (j + 1), 2 ^ ((j + 1) % 16), 0⟩, ?_, rfl, ?_, by simp⟩
  · unfold flL
    rw [List.range_succ_eq_map, List.map_cons, List.map_map]
    rfl
  · intro z hz
    obtain ⟨j, hj, rfl⟩ := List.mem_map.1 hz
    show f + (j + 1) ≠ f
    omega
theorem s8g (f : Nat) (h : 1 ≤ f) (h2 : f ≤ 4094) : goodV ⟨f, 12, 8⟩ = 0 := by
  unfold goodV
  rw [if_neg (by simp only; omega), if_neg (by simp only; omega), if_pos (show subB 12 8 = true by decide)]
theorem set_head {f : Nat} {y : Vl} {tl : List Vl} (hy : y.vid = f) (h : 1 ≤ f) (h2 : f ≤ 4094) : setV (y :: tl) ⟨f, 12, 8⟩ = ⟨f, 12, 8⟩ :: tl ∧ setVE (y :: tl) ⟨f, 12, 8⟩ = 0 := by
  have hg := s8g f h h2
  have ha : atV f (y :: tl) = 0 := by unfold atV; rw [if_pos hy]
  constructor
  · unfold setV
    simp only
    rw [if_neg (by rw [hg]; simp), ha, if_pos (by omega)]
    rfl
  · unfold setVE
    simp only
    rw [if_neg (by rw [hg]; simp), ha, if_pos (by omega)]
theorem drop_head {f : Nat} {tl : List Vl} (m u : Nat) : dropV (⟨f, m, u⟩ :: tl) f = tl ∧ dropE (⟨f, m, u⟩ :: tl) f = 0 := by
  have ha : atV f ((⟨f, m, u⟩ : Vl) :: tl) = 0 := by unfold atV; rw [if_pos rfl]
  constructor
  · unfold dropV
    rw [ha, if_neg (by omega)]
    rfl
  · unfold dropE
    rw [ha, if_neg (by omega)]
theorem drop_gone {f : Nat} {tl : List Vl} (h : ∀ z ∈ tl, z.vid ≠ f) : dropV tl f = tl ∧ dropE tl f = 11 := by
  have ha := at_no h
  constructor
  · unfold dropV
    rw [ha, if_pos (by omega)]
  · unfold dropE
    rw [ha, if_pos (by omega)]
theorem o34 : ofS [3, 4] = 12 := by decide
theorem o4 : ofS [4] = 8 := by decide
end Go.Proofs.Ytjipbdljljhijaa
