/- The sum of a text as arithmetic on numbers, with no program in sight: a register that is shifted bit by bit; why bits that are turned within 32 in a row change it. -/
namespace Go.Proofs.Ytmbafeemiclmeaa.Crc

def P : Nat := 3988292384
/-- One bit is shifted out. -/
def stp (r : Nat) : Nat := if r % 2 = 1 then (r / 2) ^^^ P else r / 2
/-- So many bits are. -/
def stpN : Nat → Nat → Nat
  | 0, r => r
  | k + 1, r => stpN k (stp r)
/-- The table's number. -/
def tab (i : Nat) : Nat := stpN 8 i
/-- One byte more. -/
def regB (r c : Nat) : Nat := (r / 256) ^^^ tab ((r % 256) ^^^ c)
/-- Some bytes more. -/
def reg (r : Nat) (l : List UInt8) : Nat := l.foldl (fun r c => regB r c.toNat) r
/-- The sum. -/
def sum (l : List UInt8) : Nat := reg 4294967295 l ^^^ 4294967295

theorem stp_xor (x y : Nat) : stp (x ^^^ y) = stp x ^^^ stp y := by
  have hd : (x ^^^ y) / 2 = x / 2 ^^^ y / 2 := Nat.xor_div_two
  have hm : (x ^^^ y) % 2 = (x % 2 + y % 2) % 2 := by
    have := Nat.xor_mod_two_pow (a := x) (b := y) (n := 1)
    simp only [Nat.pow_one] at this
    rw [this]
    rcases Nat.mod_two_eq_zero_or_one x with h | h <;> rcases Nat.mod_two_eq_zero_or_one y with g | g <;> simp [h, g]
  unfold stp
  rw [hd, hm]
  rcases Nat.mod_two_eq_zero_or_one x with h | h <;> rcases Nat.mod_two_eq_zero_or_one y with g | g <;> simp [h, g]
  · rw [Nat.xor_assoc]
  · rw [Nat.xor_assoc, Nat.xor_assoc, Nat.xor_comm P]
  · rw [Nat.xor_assoc, Nat.xor_comm P, Nat.xor_assoc, Nat.xor_self, Nat.xor_zero]

theorem stp_two (y : Nat) : stp (2 * y) = y := by
  unfold stp
  rw [if_neg (by omega)]
  omega

theorem stpN_xor (k x y : Nat) : stpN k (x ^^^ y) = stpN k x ^^^ stpN k y := by
  induction k generalizing x y with
  | zero => rfl
  | succ k ih => rw [stpN, stp_xor, ih]; rfl

theorem stpN_add (a b x : Nat) : stpN (a + b) x = stpN b (stpN a x) := by
  induction a generalizing x with
  | zero => rw [Nat.zero_add]; rfl
  | succ a ih => rw [Nat.succ_add, stpN, ih]; rfl

theorem stpN_pow (k y : Nat) : stpN k (2 ^ k * y) = y := by
  induction k generalizing y with
  | zero => simp [stpN]
  | succ k ih =>
    rw [stpN, Nat.pow_succ, Nat.mul_comm (2 ^ k) 2, Nat.mul_assoc, stp_two, ih]

theorem P_lt : P < 2 ^ 32 := by decide
theorem P_top : 2 ^ 31 ≤ P := by decide

theorem stp_lt (x : Nat) (h : x < 2 ^ 32) : stp x < 2 ^ 32 := by
  unfold stp
  split
  · exact Nat.xor_lt_two_pow (by omega) P_lt
  · omega

theorem stp_ne (x : Nat) (h : x < 2 ^ 32) (hx : x ≠ 0) : stp x ≠ 0 := by
  unfold stp
  split
  · intro e
    have : x / 2 = P := by
      have h1 : (x / 2 ^^^ P) ^^^ P = 0 ^^^ P := by rw [e]
      rw [Nat.xor_assoc, Nat.xor_self, Nat.xor_zero, Nat.zero_xor] at h1
      exact h1
    have := P_top
    omega
  · omega

theorem stpN_lt (k x : Nat) (h : x < 2 ^ 32) : stpN k x < 2 ^ 32 := by
  induction k generalizing x with
  | zero => exact h
  | succ k ih => exact ih _ (stp_lt x h)

theorem stpN_ne (k x : Nat) (h : x < 2 ^ 32) (hx : x ≠ 0) : stpN k x ≠ 0 := by
  induction k generalizing x with
  | zero => exact hx
  | succ k ih => exact ih _ (stp_lt x h) (stp_ne x h hx)

theorem tab_lt (i : Nat) (h : i < 2 ^ 32) : tab i < 2 ^ 32 := stpN_lt 8 i h

/-- A low part and a high part. -/
theorem join_xor (k a b : Nat) (h : a < 2 ^ k) : a ^^^ (2 ^ k * b) = a + 2 ^ k * b := by
  rw [Nat.add_comm, Nat.two_pow_add_eq_or_of_lt h]
  apply Nat.eq_of_testBit_eq
  intro i
  rw [Nat.testBit_xor, Nat.testBit_or, Nat.testBit_two_pow_mul]
  by_cases c : k ≤ i
  · have : a.testBit i = false := Nat.testBit_lt_two_pow (Nat.lt_of_lt_of_le h (Nat.pow_le_pow_right (by omega) c))
    simp [this, c]
  · simp [c]

theorem regB_eq (r c : Nat) : regB r c = stpN 8 (r ^^^ c) := by
  have e : r = (r % 256) ^^^ (2 ^ 8 * (r / 256)) := by
    rw [join_xor 8 (r % 256) (r / 256) (by omega)]
    omega
  unfold regB tab
  conv => rhs; rw [e, Nat.xor_comm, ← Nat.xor_assoc, stpN_xor, stpN_pow, Nat.xor_comm c]
  rw [Nat.xor_comm]

theorem regB_lt (r c : Nat) (hr : r < 2 ^ 32) (hc : c < 256) : regB r c < 2 ^ 32 := by
  rw [regB_eq r c]
  exact stpN_lt 8 _ (Nat.xor_lt_two_pow hr (by omega))

theorem reg_lt (r : Nat) (l : List UInt8) (hr : r < 2 ^ 32) : reg r l < 2 ^ 32 := by
  induction l generalizing r with
  | nil => exact hr
  | cons c l ih => exact ih _ (regB_lt r _ hr c.toNat_lt)

theorem reg_snoc (r : Nat) (l : List UInt8) (c : UInt8) : reg r (l ++ [c]) = regB (reg r l) c.toNat := by simp [reg]
theorem reg_append (r : Nat) (l m : List UInt8) : reg r (l ++ m) = reg (reg r l) m := by simp [reg]
theorem sum_lt (l : List UInt8) : sum l < 2 ^ 32 := Nat.xor_lt_two_pow (reg_lt _ l (by decide)) (by decide)

/-- Some bytes as one number, the lowest first. -/
def num : List UInt8 → Nat
  | [] => 0
  | c :: l => c.toNat ^^^ (2 ^ 8 * num l)

theorem reg_eq (r : Nat) (l : List UInt8) : reg r l = stpN (8 * l.length) (r ^^^ num l) := by
  induction l generalizing r with
  | nil => simp [reg, num, stpN]
  | cons c l ih =>
    show reg (regB r c.toNat) l = _
    rw [ih, regB_eq r _, List.length_cons, Nat.mul_succ, Nat.add_comm, stpN_add, num, ← Nat.xor_assoc, stpN_xor 8 (r ^^^ c.toNat), stpN_pow]

theorem num_eq (c : UInt8) (l : List UInt8) : num (c :: l) = c.toNat + 256 * num l := by
  rw [num, join_xor 8 _ _ c.toNat_lt]

theorem num_inj (l m : List UInt8) (hl : l.length = m.length) (h : num l = num m) : l = m := by
  induction l generalizing m with
  | nil => cases m with
    | nil => rfl
    | cons _ _ => simp at hl
  | cons c l ih => cases m with
    | nil => simp at hl
    | cons d m =>
      rw [num_eq, num_eq] at h
      have h1 := c.toNat_lt
      have h2 := d.toNat_lt
      have e : c.toNat = d.toNat := by omega
      have e2 : num l = num m := by omega
      rw [ih m (by simpa using hl) e2, UInt8.toNat_inj.1 e]

theorem mul_pow_xor (k x y : Nat) : 2 ^ k * (x ^^^ y) = 2 ^ k * x ^^^ 2 ^ k * y := by
  apply Nat.eq_of_testBit_eq
  intro i
  rw [Nat.testBit_xor, Nat.testBit_two_pow_mul, Nat.testBit_two_pow_mul, Nat.testBit_two_pow_mul, Nat.testBit_xor]
  by_cases c : k ≤ i <;> simp [c]

/-- A byte that is turned. -/
theorem num_set (l : List UInt8) (j : Nat) (hj : j < l.length) (b : UInt8) : num (l.set j (l[j] ^^^ b)) = num l ^^^ (2 ^ (8 * j) * b.toNat) := by
  induction l generalizing j with
  | nil => simp at hj
  | cons c l ih =>
    cases j with
    | zero =>
      simp only [List.set_cons_zero, List.getElem_cons_zero, num, UInt8.toNat_xor, Nat.mul_zero, Nat.pow_zero, Nat.one_mul]
      rw [Nat.xor_assoc, Nat.xor_assoc, Nat.xor_comm b.toNat]
    | succ j =>
      have hj' : j < l.length := by simpa using hj
      simp only [List.set_cons_succ, List.getElem_cons_succ, num]
      rw [ih j hj', mul_pow_xor, ← Nat.xor_assoc, ← Nat.mul_assoc, ← Nat.pow_add, Nat.mul_succ, Nat.add_comm 8]

/-- One step of turning bits. -/
def turn1 (l : List UInt8) (at_ bits i : Nat) : List UInt8 :=
  if h : bits / 2 ^ i % 2 = 1 ∧ (at_ + i) / 8 < l.length then l.set ((at_ + i) / 8) (l[(at_ + i) / 8]'h.2 ^^^ UInt8.ofNat (2 ^ ((at_ + i) % 8))) else l
/-- So many steps. -/
def turnK (l : List UInt8) (at_ bits : Nat) : Nat → List UInt8
  | 0 => l
  | k + 1 => turn1 (turnK l at_ bits k) at_ bits k
def turn (l : List UInt8) (at_ bits : Nat) : List UInt8 := turnK l at_ bits 32

theorem turn1_length (l : List UInt8) (a bits i : Nat) : (turn1 l a bits i).length = l.length := by
  unfold turn1
  split <;> simp

theorem turnK_length (l : List UInt8) (a bits k : Nat) : (turnK l a bits k).length = l.length := by
  induction k with
  | zero => rfl
  | succ k ih => rw [turnK, turn1_length, ih]

theorem turnK_num (l : List UInt8) (a bits k : Nat) (hk : k ≤ 32) : ∃ E, E < 2 ^ k ∧ num (turnK l a bits k) = num l ^^^ (2 ^ a * E) ∧ (E ≠ 0 → a < 8 * l.length) := by
  induction k with
  | zero => exact ⟨0, by decide, by simp [turnK], fun h => absurd rfl h⟩
  | succ k ih =>
    obtain ⟨E, h1, h2, h3⟩ := ih (by omega)
    by_cases h : bits / 2 ^ k % 2 = 1 ∧ (a + k) / 8 < (turnK l a bits k).length
    · refine ⟨E ^^^ 2 ^ k, ?_, ?_, ?_⟩
      · exact Nat.xor_lt_two_pow (Nat.lt_of_lt_of_le h1 (Nat.pow_le_pow_right (by omega) (by omega))) (Nat.pow_lt_pow_right (by omega) (by omega))
      · rw [turnK]
        unfold turn1
        rw [dif_pos h, num_set, h2, mul_pow_xor, Nat.xor_assoc]
        have e1 : (UInt8.ofNat (2 ^ ((a + k) % 8))).toNat = 2 ^ ((a + k) % 8) := by
          have : 2 ^ ((a + k) % 8) < 2 ^ 8 := Nat.pow_lt_pow_right (by omega) (by omega)
          rw [UInt8.toNat_ofNat']
          exact Nat.mod_eq_of_lt this
        have e2 : 2 ^ (8 * ((a + k) / 8)) * 2 ^ ((a + k) % 8) = 2 ^ a * 2 ^ k := by
          rw [← Nat.pow_add, ← Nat.pow_add]
          congr 1
          omega
        rw [e1, e2]
      · intro _
        have := turnK_length l a bits k
        omega
    · refine ⟨E, Nat.lt_of_lt_of_le h1 (Nat.pow_le_pow_right (by omega) (by omega)), ?_, h3⟩
      rw [turnK]
      unfold turn1
      rw [dif_neg h, h2]

/-- Four bytes of a number, the lowest first. -/
def le4 (n : Nat) : List UInt8 := [UInt8.ofNat (n % 256), UInt8.ofNat (n / 256 % 256), UInt8.ofNat (n / 65536 % 256), UInt8.ofNat (n / 16777216 % 256)]

theorem num_le4 (n : Nat) (h : n < 2 ^ 32) : num (le4 n) = n := by
  rw [le4, num_eq, num_eq, num_eq, num_eq, num]
  simp
  omega

/-- A text, and its sum behind it: the register is always the same. -/
theorem reg_whole (l v : List UInt8) (hv : v.length = 4) (h : sum l = num v) : reg 4294967295 (l ++ v) = stpN 32 4294967295 := by
  rw [reg_append, reg_eq _ v, hv, ← h]
  unfold sum
  rw [← Nat.xor_assoc, Nat.xor_self, Nat.zero_xor]

/-- What is turned within 32 bits in a row is found. -/
theorem burst (l : List UInt8) (a bits : Nat) (u v : List UInt8) (hv : v.length = 4) (ht : turn (l ++ le4 (sum l)) a bits = u ++ v) (hne : turn (l ++ le4 (sum l)) a bits ≠ l ++ le4 (sum l)) : sum u ≠ num v := by
  intro h
  obtain ⟨E, h1, h2, h3⟩ := turnK_num (l ++ le4 (sum l)) a bits 32 (by omega)
  have hl := turnK_length (l ++ le4 (sum l)) a bits 32
  have hE : E ≠ 0 := by
    intro e
    subst e
    apply hne
    exact num_inj _ _ hl (by rw [show turn (l ++ le4 (sum l)) a bits = turnK (l ++ le4 (sum l)) a bits 32 from rfl, h2]; simp)
  have ha := h3 hE
  have w1 := reg_whole l (le4 (sum l)) rfl (num_le4 _ (sum_lt l)).symm
  have w2 := reg_whole u v hv h
  rw [← ht] at w2
  rw [show turn (l ++ le4 (sum l)) a bits = turnK (l ++ le4 (sum l)) a bits 32 from rfl, reg_eq, hl, h2, ← Nat.xor_assoc, stpN_xor, ← reg_eq, w1] at w2
  have z : stpN (8 * (l ++ le4 (sum l)).length) (2 ^ a * E) = 0 := by
    have : stpN 32 4294967295 ^^^ (stpN 32 4294967295 ^^^ stpN (8 * (l ++ le4 (sum l)).length) (2 ^ a * E)) = stpN 32 4294967295 ^^^ stpN 32 4294967295 := by rw [w2]
    rw [← Nat.xor_assoc, Nat.xor_self, Nat.zero_xor] at this
    exact this
  have e : 8 * (l ++ le4 (sum l)).length = a + (8 * (l ++ le4 (sum l)).length - a) := by omega
  rw [e, stpN_add, stpN_pow] at z
  exact stpN_ne _ E h1 hE z

end Go.Proofs.Ytmbafeemiclmeaa.Crc
