/- What a reader finds in a text, place by place. -/
import Derived.Test.YtkohnleeiajiiaaRdF
import Derived.Test.YtkohnleeiajiiaaPEnc2
namespace Go.Proofs.Ytkohnleeiajiiaa
open Go.RowKit

def byteAt' (s : ByteArray) (i : Nat) : Nat := (s.data.toList.getD i 0).toNat

theorem byteAt_get (s : ByteArray) (i : Nat) (h : i < s.size) : (s[i].toNat) = byteAt' s i := by
  have h1 : i < s.data.toList.length := by rw [Array.length_toList]; exact h
  simp only [byteAt', List.getD_eq_getElem?_getD]
  rw [List.getElem?_eq_getElem h1]
  rfl

theorem byteAt_lt (s : ByteArray) (i : Nat) : byteAt' s i < 256 := (s.data.toList.getD i 0).toNat_lt

theorem ext_list (s : ByteArray) (a b : Nat) : (s.extract a b).data.toList = (s.data.toList.drop a).take (b - a) := by
  simp only [ByteArray.data_extract, Array.toList_extract, List.extract_eq_take_drop]

theorem ext_ext (s : ByteArray) (a k : Nat) (_ : a + k ≤ s.size) : (s.extract a s.size).extract k (s.extract a s.size).size = s.extract (a + k) s.size := by
  have hsz : (s.extract a s.size).size = s.size - a := by simp
  have hl : s.data.toList.length = s.size := by rw [Array.length_toList]; rfl
  apply ByteArray.ext
  apply Array.ext'
  rw [ext_list, ext_list, ext_list, hsz]
  rw [List.take_of_length_le (by simp), List.take_of_length_le (by simp), List.take_of_length_le (by simp), List.drop_drop]

theorem ext_front (s : ByteArray) (a k : Nat) (h : a + k ≤ s.size) : ((s.extract a s.size).extract 0 k).data.toList = (s.data.toList.drop a).take k := by
  have hl : s.data.toList.length = s.size := by rw [Array.length_toList]; rfl
  rw [ext_list, ext_list, List.drop_zero, Nat.sub_zero, List.take_take, Nat.min_eq_left (by omega)]

theorem whole (s : ByteArray) : s.extract 0 s.size = s := by simp

theorem drop_at (s : ByteArray) (a i : Nat) (h : a + i < s.size) : (s.data.toList.drop a)[i]? = some (UInt8.ofNat (byteAt' s (a + i))) := by
  have hl : s.data.toList.length = s.size := by rw [Array.length_toList]; rfl
  rw [List.getElem?_drop]
  unfold byteAt'
  rw [List.getD_eq_getElem?_getD, List.getElem?_eq_getElem (by omega)]
  simp

theorem take2 (s : ByteArray) (a : Nat) (h : a + 2 ≤ s.size) : (s.data.toList.drop a).take 2 = [UInt8.ofNat (byteAt' s a), UInt8.ofNat (byteAt' s (a + 1))] := by
  have hl : s.data.toList.length = s.size := by rw [Array.length_toList]; rfl
  apply List.ext_getElem?
  intro i
  by_cases c : i < 2
  · rw [List.getElem?_take_of_lt c, drop_at s a i (by omega)]
    match i, c with
    | 0, _ => rfl
    | 1, _ => rfl
  · rw [List.getElem?_eq_none (by simp; omega), List.getElem?_eq_none (by simp; omega)]

theorem ofNat_nat (n : Nat) (h : n < 256) : (UInt8.ofNat n).toNat = n := by simp; omega

theorem step_yes (s : ByteArray) (a k : Nat) (h : a + k ≤ s.size) : nV (s.extract a s.size) false k = Nums.numL ((s.data.toList.drop a).take k) ∧ nR (s.extract a s.size) false k = s.extract (a + k) s.size ∧ nS (s.extract a s.size) false k = false := by
  have hsz : (s.extract a s.size).size = s.size - a := by simp
  have he : enough (s.extract a s.size) false k := ⟨rfl, by rw [hsz]; omega⟩
  refine ⟨?_, ?_, ?_⟩
  · unfold nV; rw [if_pos he, ext_front s a k h]
  · unfold nR; rw [if_pos he, ext_ext s a k h]
  · unfold nS; rw [if_pos he]

theorem step_no (s : ByteArray) (a k : Nat) (ha : a ≤ s.size) (h : s.size < a + k) : nV (s.extract a s.size) false k = 0 ∧ nR (s.extract a s.size) false k = s.extract a s.size ∧ nS (s.extract a s.size) false k = true := by
  have hsz : (s.extract a s.size).size = s.size - a := by simp
  have he : ¬ enough (s.extract a s.size) false k := fun c => by have := c.2; rw [hsz] at this; omega
  refine ⟨?_, ?_, ?_⟩
  · unfold nV; rw [if_neg he]
  · unfold nR; rw [if_neg he]
  · unfold nS; rw [if_neg he]

theorem step_short (rest : ByteArray) (k : Nat) : nV rest true k = 0 ∧ nR rest true k = rest ∧ nS rest true k = true := by
  have he : ¬ enough rest true k := fun c => by cases c.1
  refine ⟨?_, ?_, ?_⟩
  · unfold nV; rw [if_neg he]
  · unfold nR; rw [if_neg he]
  · unfold nS; rw [if_neg he]

theorem take1 (s : ByteArray) (a : Nat) (h : a + 1 ≤ s.size) : (s.data.toList.drop a).take 1 = [UInt8.ofNat (byteAt' s a)] := by
  have hl : s.data.toList.length = s.size := by rw [Array.length_toList]; rfl
  apply List.ext_getElem?
  intro i
  by_cases c : i < 1
  · rw [List.getElem?_take_of_lt c, drop_at s a i (by omega)]
    match i, c with
    | 0, _ => rfl
  · rw [List.getElem?_eq_none (by simp; omega), List.getElem?_eq_none (by simp; omega)]

theorem num1 (s : ByteArray) (a : Nat) (h : a + 1 ≤ s.size) : Nums.numL ((s.data.toList.drop a).take 1) = byteAt' s a := by
  rw [take1 s a h]
  simp only [Nums.numL, List.foldl]
  rw [ofNat_nat _ (byteAt_lt s a)]
  omega

/-- The number of k bytes from a place on. -/
def posV (s : ByteArray) (o k : Nat) : Nat := Nums.numL ((s.data.toList.drop o).take k)

theorem st1_yes (s : ByteArray) (o k : Nat) (h : o + k ≤ s.size) : nV (s.extract o s.size) false k = posV s o k ∧ st1 (s.extract o s.size, false) k = (s.extract (o + k) s.size, false) := by
  obtain ⟨h1, h2, h3⟩ := step_yes s o k h
  exact ⟨h1, by unfold st1; rw [h2, h3]⟩

theorem st1_no (s : ByteArray) (o k : Nat) (ho : o ≤ s.size) (h : s.size < o + k) : (st1 (s.extract o s.size, false) k).2 = true := (step_no s o k ho h).2.2
theorem st1_short (x : ByteArray × Bool) (k : Nat) (h : x.2 = true) : (st1 x k).2 = true := by
  unfold st1
  rw [h]
  exact (step_short x.1 k).2.2

/-- A text that is read; is it short then? -/
def rV (rest : ByteArray) (sh : Bool) (k : Nat) : ByteArray := if enough rest sh k then rest.extract 0 k else ⟨#[]⟩

theorem raw_any (g k : Nat) (rest : ByteArray) (sh : Bool) (w : World) (h : Rd w g rest sh) :
    Calls Try.prog 35 #[.pointer (some ⟨g, 0, none⟩), .int .i64 k] w fun e w' => e = .returned (.string (rV rest sh k)) ∧ Rd w' g (nR rest sh k) (nS rest sh k) ∧ w.grownBy w' (some g) := by
  by_cases c : enough rest sh k
  · have e1 : rV rest sh k = rest.extract 0 k := by unfold rV; rw [if_pos c]
    have e2 : nR rest sh k = rest.extract k rest.size := by unfold nR; rw [if_pos c]
    have e3 : nS rest sh k = false := by unfold nS; rw [if_pos c]
    rw [e1, e2, e3]
    obtain ⟨c1, c2⟩ := c
    subst c1
    exact raw_good g k rest w h c2
  · have e1 : rV rest sh k = ⟨#[]⟩ := by unfold rV; rw [if_neg c]
    have e2 : nR rest sh k = rest := by unfold nR; rw [if_neg c]
    have e3 : nS rest sh k = true := by unfold nS; rw [if_neg c]
    rw [e1, e2, e3]
    refine raw_bad g k rest sh w h ?_
    unfold enough at c
    cases sh with
    | true => exact .inl rfl
    | false => right; right; simp at c; omega

/-- The kind and the version that stand in a text. -/
def kB (s : ByteArray) : Nat := byteAt' s 6
def vB (s : ByteArray) : Nat := byteAt' s 5
def kindOk (k : Nat) : Bool := decide (k = 0) || decide (k = 2) || decide (k = 128)
def needN (k : Nat) : Nat := if k = 2 then 39 else 38
/-- The PDU that stands in it. -/
def decQ (s : ByteArray) : Pd := rdQ (kindP (kB s)) (s.extract 7 s.size, false)
/-- The error's number, and what is answered. -/
def decE (s : ByteArray) : Int :=
  if s.size < 7 then 2 else if ¬ s.extract 0 5 = frontS then 4 else if ¬ (kindOk (kB s) = true ∧ vB s = verN (kB s)) then 8 else if kB s = 128 then 0 else if s.size < needN (kB s) then 2
  else if ¬ (goodP (decQ s) = true ∧ (kB s = 2 → byteAt' s 38 = 0)) then 4 else 0
def decP (s : ByteArray) : Pd := if decE s = 0 then (if kB s = 128 then kindP 128 else decQ s) else kindP 0

theorem good_kindP (k : Nat) : goodP (kindP k) = kindOk k := by
  unfold goodP kindOk
  by_cases h0 : k = 0
  · subst h0; rfl
  · by_cases h2 : k = 2
    · subst h2; rfl
    · rw [if_neg (show ¬ (kindP k).kind = 0 from h0), if_neg (show ¬ (kindP k).kind = 2 from h2)]
      rw [Bool.eq_iff_iff]
      simp [eqP, kindP, h0, h2]
      exact decide_eq_true_iff

/-- Behind the head. -/
def X1 (s : ByteArray) : ByteArray × Bool := (nR s false 5, nS s false 5)
def X3 (s : ByteArray) : ByteArray × Bool := st1 (st1 (X1 s) 1) 1

theorem head_yes (s : ByteArray) (h : 7 ≤ s.size) : rV s false 5 = s.extract 0 5 ∧ nV (X1 s).1 (X1 s).2 1 = vB s ∧ nV (st1 (X1 s) 1).1 (st1 (X1 s) 1).2 1 = kB s ∧ X3 s = (s.extract 7 s.size, false) := by
  have he : enough s false 5 := ⟨rfl, by omega⟩
  have e1 : X1 s = (s.extract 5 s.size, false) := by
    unfold X1 nR nS
    rw [if_pos he, if_pos he]
  obtain ⟨a1, a2⟩ := st1_yes s 5 1 (by omega)
  obtain ⟨b1, b2⟩ := st1_yes s 6 1 (by omega)
  refine ⟨by unfold rV; rw [if_pos he], ?_, ?_, ?_⟩
  · rw [e1]; exact a1.trans (num1 s 5 (by omega))
  · rw [e1, a2]; exact b1.trans (num1 s 6 (by omega))
  · unfold X3; rw [e1, a2, b2]

theorem head_no (s : ByteArray) (h : s.size < 7) : (X3 s).2 = true := by
  unfold X3
  by_cases h5 : 5 ≤ s.size
  · have he : enough s false 5 := ⟨rfl, h5⟩
    have e1 : X1 s = (s.extract 5 s.size, false) := by
      unfold X1 nR nS
      rw [if_pos he, if_pos he]
    rw [e1]
    by_cases h6 : 6 ≤ s.size
    · rw [(st1_yes s 5 1 (by omega)).2]
      exact st1_no s 6 1 (by omega) (by omega)
    · exact st1_short _ _ (st1_no s 5 1 (by omega) (by omega))
  · have he : ¬ enough s false 5 := fun c => h5 c.2
    refine st1_short _ _ (st1_short _ _ ?_)
    unfold X1 nS
    rw [if_neg he]

theorem body_yes (s : ByteArray) (h : 38 ≤ s.size) : stX (s.extract 7 s.size, false) 9 = (s.extract 38 s.size, false) := by
  show st1 (st1 (st1 (st1 (st1 (st1 (st1 (st1 (st1 (s.extract 7 s.size, false) 1) 8) 4) 8) 2) 2) 2) 2) 2 = _
  rw [(st1_yes s 7 1 (by omega)).2, (st1_yes s 8 8 (by omega)).2, (st1_yes s 16 4 (by omega)).2, (st1_yes s 20 8 (by omega)).2, (st1_yes s 28 2 (by omega)).2, (st1_yes s 30 2 (by omega)).2, (st1_yes s 32 2 (by omega)).2, (st1_yes s 34 2 (by omega)).2, (st1_yes s 36 2 (by omega)).2]

theorem chain_no (s : ByteArray) (l : List Nat) : ∀ (o : Nat), o ≤ s.size → s.size < o + l.sum → (l.foldl st1 (s.extract o s.size, false)).2 = true := by
  induction l with
  | nil => intro o h1 h2; simp at h2; omega
  | cons k l ih =>
    intro o h1 h2
    rw [List.foldl_cons]
    by_cases c : o + k ≤ s.size
    · rw [(st1_yes s o k c).2]
      exact ih (o + k) c (by simp at h2; omega)
    · have : ∀ (l : List Nat) (x : ByteArray × Bool), x.2 = true → (l.foldl st1 x).2 = true := by
        intro l
        induction l with
        | nil => intro x hx; exact hx
        | cons k l ih => intro x hx; exact ih _ (st1_short x k hx)
      exact this l _ (st1_no s o k h1 (by omega))

theorem body_no (s : ByteArray) (h7 : 7 ≤ s.size) (h : s.size < 38) : (stX (s.extract 7 s.size, false) 9).2 = true :=
  chain_no s [1, 8, 4, 8, 2, 2, 2, 2, 2] 7 h7 (by simp; omega)
end Go.Proofs.Ytkohnleeiajiiaa
