/- Plain arithmetic on bits and bytes, with no program in sight: what the contracts of layer 1 say. -/
namespace Go.Proofs.Ytiophmmcennjnaa.Nums

/-- Are 'a' and 'n' a place and a width of bits of a number? -/
def good (a n : Int) : Prop := 0 ≤ a ∧ a ≤ 63 ∧ 1 ≤ n ∧ n ≤ 64 - a
instance (a n : Int) : Decidable (good a n) := by unfold good; infer_instance

/-- The mask of the bits at a place. -/
def maskN (a n : Int) : Nat := if good a n then (2 ^ n.toNat - 1) * 2 ^ a.toNat else 0
/-- Some bits of a number. -/
def fieldN (x : Nat) (a n : Int) : Nat := if good a n then x / 2 ^ a.toNat % 2 ^ n.toNat else 0
/-- A number with some bits of another one. -/
def withN (x : Nat) (a n : Int) (v : Nat) : Nat :=
  if good a n then (x &&& (18446744073709551615 - maskN a n)) ||| ((v * 2 ^ a.toNat % 18446744073709551616) &&& maskN a n) else x

theorem pow_le (k : Nat) (h : k ≤ 64) : 2 ^ k ≤ 18446744073709551616 := by
  have := Nat.pow_le_pow_right (n := 2) (by omega) h
  simpa using this

theorem two_pos (k : Nat) : 0 < 2 ^ k := Nat.two_pow_pos k

theorem maskN_lt (a n : Int) : maskN a n < 18446744073709551616 := by
  unfold maskN
  split
  · rename_i h
    obtain ⟨h1, h2, h3, h4⟩ := h
    have e : 2 ^ n.toNat * 2 ^ a.toNat = 2 ^ (n.toNat + a.toNat) := (Nat.pow_add ..).symm
    have l := pow_le (n.toNat + a.toNat) (by omega)
    have p := two_pos a.toNat
    rw [Nat.sub_mul, e]
    omega
  · omega

theorem maskN_pos (a n : Int) (h : good a n) : 0 < maskN a n := by
  unfold maskN
  rw [if_pos h]
  obtain ⟨h1, h2, h3, h4⟩ := h
  have : 2 ^ 1 ≤ 2 ^ n.toNat := Nat.pow_le_pow_right (by omega) (by omega)
  exact Nat.mul_pos (by omega) (two_pos _)

theorem maskN_no (a n : Int) (h : ¬ good a n) : maskN a n = 0 := by unfold maskN; rw [if_neg h]

theorem testBit_mask (w a i : Nat) : ((2 ^ w - 1) * 2 ^ a).testBit i = (decide (a ≤ i) && decide (i < w + a)) := by
  rw [Nat.testBit_mul_two_pow, Nat.testBit_two_pow_sub_one]
  by_cases h : a ≤ i
  · simp [h]; omega
  · simp [h]

theorem and_mask_div (x w a : Nat) : (x &&& ((2 ^ w - 1) * 2 ^ a)) / 2 ^ a = x / 2 ^ a % 2 ^ w := by
  apply Nat.eq_of_testBit_eq
  intro i
  rw [Nat.testBit_div_two_pow, Nat.testBit_and, testBit_mask, Nat.testBit_mod_two_pow, Nat.testBit_div_two_pow]
  have e : decide (a ≤ i + a) = true := by simp
  have f : decide (i + a < w + a) = decide (i < w) := by simp
  rw [e, f]
  cases x.testBit (i + a) <;> simp

theorem full_div (n : Nat) (h1 : n ≤ 64) : 18446744073709551615 / 2 ^ (64 - n) = 2 ^ n - 1 := by
  have e : 2 ^ n * 2 ^ (64 - n) = 18446744073709551616 := by rw [← Nat.pow_add, show n + (64 - n) = 64 by omega]
  have p := two_pos (64 - n)
  have q := two_pos n
  apply Nat.div_eq_of_lt_le
  · rw [Nat.sub_mul, e]; omega
  · have r : 2 ^ n - 1 + 1 = 2 ^ n := by omega
    rw [r, e]; omega

theorem fieldN_eq (x : Nat) (a n : Int) (h : good a n) : (x &&& maskN a n) / 2 ^ a.toNat = fieldN x a n := by
  unfold maskN fieldN
  rw [if_pos h, if_pos h, and_mask_div]

theorem fieldN_no (x : Nat) (a n : Int) (h : ¬ good a n) : fieldN x a n = 0 := by unfold fieldN; rw [if_neg h]

theorem fieldN_le (x : Nat) (a n : Int) (hx : x < 18446744073709551616) : fieldN x a n < 18446744073709551616 := by
  unfold fieldN
  split
  · exact Nat.lt_of_le_of_lt (Nat.mod_le _ _) (Nat.lt_of_le_of_lt (Nat.div_le_self _ _) hx)
  · omega

/-- bit i of a number, as 0 or 1 -/
theorem fieldN_one (x : Nat) (i : Int) (h0 : 0 ≤ i) (h1 : i ≤ 63) : fieldN x i 1 = x / 2 ^ i.toNat % 2 := by
  unfold fieldN
  rw [if_pos ⟨h0, h1, by omega, by omega⟩]
  simp

theorem withN_lt (x : Nat) (a n : Int) (v : Nat) (hx : x < 18446744073709551616) : withN x a n v < 18446744073709551616 := by
  unfold withN
  split
  · have h1 : x &&& (18446744073709551615 - maskN a n) < 2 ^ 64 := Nat.and_lt_two_pow _ (by omega)
    have h2 : (v * 2 ^ a.toNat % 18446744073709551616) &&& maskN a n < 2 ^ 64 := Nat.and_lt_two_pow _ (by have := maskN_lt a n; omega)
    have := Nat.or_lt_two_pow h1 h2
    omega
  · exact hx

theorem testBit_full_sub (m i : Nat) (hm : m < 18446744073709551616) : (18446744073709551615 - m).testBit i = (decide (i < 64) && !m.testBit i) := by
  have := Nat.testBit_two_pow_sub_succ (x := m) (n := 64) (by simpa using hm) i
  rw [show 2 ^ 64 - (m + 1) = 18446744073709551615 - m by omega] at this
  exact this

theorem testBit_withN (x : Nat) (a n : Int) (v i : Nat) (h : good a n) (hi : i < 64) :
    (withN x a n v).testBit i = if a.toNat ≤ i ∧ i < a.toNat + n.toNat then v.testBit (i - a.toNat) else x.testBit i := by
  unfold withN
  rw [if_pos h, Nat.testBit_or, Nat.testBit_and, Nat.testBit_and, testBit_full_sub _ _ (maskN_lt a n)]
  have hm : (maskN a n).testBit i = (decide (a.toNat ≤ i) && decide (i < n.toNat + a.toNat)) := by
    unfold maskN; rw [if_pos h, testBit_mask]
  rw [hm, show (18446744073709551616 : Nat) = 2 ^ 64 by decide, Nat.testBit_mod_two_pow, Nat.testBit_mul_two_pow]
  by_cases h1 : a.toNat ≤ i
  · by_cases h2 : i < n.toNat + a.toNat
    · have h3 : i < a.toNat + n.toNat := by omega
      simp [h1, h2, h3, hi]
    · have h3 : ¬ i < a.toNat + n.toNat := by omega
      simp [h1, h2, h3, hi]
  · simp [h1, hi]

theorem bit_of_testBit (x i : Nat) : x / 2 ^ i % 2 = if x.testBit i then 1 else 0 := by
  rw [Nat.testBit_eq_decide_div_mod_eq]
  by_cases h : x / 2 ^ i % 2 = 1
  · simp [h]
  · simp [h]; omega

/-- what WireNumbers asks of each bit -/
theorem withN_bit (x : Nat) (a n : Int) (v : Nat) (h : good a n) (i : Int) (h0 : 0 ≤ i) (h1 : i ≤ 63) :
    fieldN (withN x a n v) i 1 = if a ≤ i ∧ i < a + n then fieldN v (i - a) 1 else fieldN x i 1 := by
  rw [fieldN_one _ i h0 h1, bit_of_testBit, testBit_withN x a n v i.toNat h (by omega)]
  obtain ⟨g1, g2, g3, g4⟩ := h
  by_cases c : a ≤ i ∧ i < a + n
  · have e : a.toNat ≤ i.toNat ∧ i.toNat < a.toNat + n.toNat := ⟨by omega, by omega⟩
    rw [if_pos c, if_pos e, fieldN_one _ _ (by omega) (by omega), bit_of_testBit, show (i - a).toNat = i.toNat - a.toNat by omega]
  · have e : ¬ (a.toNat ≤ i.toNat ∧ i.toNat < a.toNat + n.toNat) := by omega
    rw [if_neg c, if_neg e, fieldN_one _ _ h0 h1, bit_of_testBit]

/-- The bytes of a number, the highest first. -/
def bytesN (x : Nat) : Nat → List UInt8
  | 0 => []
  | k + 1 => UInt8.ofNat (x / 256 ^ k % 256) :: bytesN x k

theorem bytesN_length (x k : Nat) : (bytesN x k).length = k := by induction k with
  | zero => rfl
  | succ k ih => simp [bytesN, ih]

/-- A row of bytes, filled from its end on. -/
def rowU (x size k : Nat) : List UInt8 := (List.range size).map fun j => if size - k ≤ j then UInt8.ofNat (x / 256 ^ (size - 1 - j) % 256) else 0

theorem rowU_length (x size k : Nat) : (rowU x size k).length = size := by simp [rowU]

theorem rowU_zero (x size : Nat) : rowU x size 0 = List.replicate size 0 := by
  apply List.ext_getElem
  · simp [rowU]
  · intro i h1 h2
    have : i < size := by simpa [rowU] using h1
    simp [rowU]
    omega

theorem rowU_step (x size k : Nat) (h : k < size) : (rowU x size k).set (size - 1 - k) (UInt8.ofNat (x / 256 ^ k % 256)) = rowU x size (k + 1) := by
  apply List.ext_getElem
  · simp [rowU]
  · intro i h1 h2
    have hi : i < size := by simpa [rowU] using h2
    rw [List.getElem_set]
    by_cases c : size - 1 - k = i
    · subst c
      have e : size - 1 - (size - 1 - k) = k := by omega
      have f : size - (k + 1) ≤ size - 1 - k := by omega
      simp only [rowU, List.getElem_map, List.getElem_range, if_true]
      rw [if_pos f, e]
    · rw [if_neg c]
      simp only [rowU, List.getElem_map, List.getElem_range]
      by_cases d : size - k ≤ i
      · rw [if_pos d, if_pos (by omega)]
      · rw [if_neg d, if_neg (by omega)]

theorem rowU_all (x size : Nat) : rowU x size size = bytesN x size := by
  have key : ∀ n, (List.range n).map (fun j => UInt8.ofNat (x / 256 ^ (n - 1 - j) % 256)) = bytesN x n := by
    intro n
    induction n with
    | zero => rfl
    | succ n ih =>
      rw [List.range_succ_eq_map, List.map_cons, List.map_map, bytesN, ← ih]
      congr 1
      apply List.map_congr_left
      intro j hj
      have : n - (j + 1) = n - 1 - j := by omega
      simp [this]
  rw [← key]
  unfold rowU
  apply List.map_congr_left
  intro j _
  rw [if_pos (by omega)]

/-- The number in some bytes, the highest first. -/
def numL (l : List UInt8) : Nat := l.foldl (fun n c => 256 * n + c.toNat) 0

theorem numL_snoc (l : List UInt8) (c : UInt8) : numL (l ++ [c]) = 256 * numL l + c.toNat := by simp [numL]

theorem foldl_num (l : List UInt8) (a : Nat) : l.foldl (fun n c => 256 * n + c.toNat) a = a * 256 ^ l.length + numL l := by
  induction l generalizing a with
  | nil => simp [numL]
  | cons c l ih =>
    have e : numL (c :: l) = c.toNat * 256 ^ l.length + numL l := by
      show l.foldl (fun n c => 256 * n + c.toNat) (256 * 0 + c.toNat) = _
      rw [ih]
      simp
    rw [e, List.foldl_cons, ih, List.length_cons, Nat.pow_succ, Nat.add_mul, Nat.mul_comm 256 a, Nat.mul_assoc, Nat.mul_comm 256 (256 ^ l.length)]
    omega

theorem numL_cons (c : UInt8) (l : List UInt8) : numL (c :: l) = c.toNat * 256 ^ l.length + numL l := by
  show l.foldl (fun n c => 256 * n + c.toNat) (256 * 0 + c.toNat) = _
  rw [foldl_num]
  simp

theorem numL_lt (l : List UInt8) : numL l < 256 ^ l.length := by
  induction l with
  | nil => decide
  | cons c l ih =>
    rw [numL_cons, List.length_cons, Nat.pow_succ]
    have := c.toNat_lt
    have : c.toNat * 256 ^ l.length ≤ 255 * 256 ^ l.length := Nat.mul_le_mul_right _ (by omega)
    omega

theorem numL_bytesN (x k : Nat) : numL (bytesN x k) = x % 256 ^ k := by
  induction k with
  | zero => simp [bytesN, numL, Nat.mod_one]
  | succ k ih =>
    rw [bytesN, numL_cons, ih, bytesN_length]
    have : (UInt8.ofNat (x / 256 ^ k % 256)).toNat = x / 256 ^ k % 256 := by simp
    rw [this, Nat.pow_succ, Nat.mod_mul, Nat.mul_comm, Nat.add_comm]

end Go.Proofs.Ytiophmmcennjnaa.Nums
