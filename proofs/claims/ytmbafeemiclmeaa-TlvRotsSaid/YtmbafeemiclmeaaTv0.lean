/- Images of sections: plain Lean, no program in sight. -/
import Derived.Test.YtmbafeemiclmeaaNums
import Derived.Test.YtmbafeemiclmeaaCrcMath
namespace Go.Proofs.Ytmbafeemiclmeaa

/-- A section. -/
structure Sec where
  k : UInt8
  d : ByteArray
def Sec.bytes (s : Sec) : List UInt8 := s.k :: (Nums.bytesN s.d.size 4 ++ s.d.data.toList)
def bodyL (l : List Sec) : List UInt8 := l.flatMap Sec.bytes
/-- Do kinds rise? -/
def risesL : List Sec → Bool
  | [] => true
  | [_] => true
  | a :: b :: l => decide (a.k.toNat < b.k.toNat) && risesL (b :: l)
def headL (v : UInt8) (n : Nat) : List UInt8 := [71, 82, 68, 82] ++ v :: Nums.bytesN n 4
def bareL (v : UInt8) (l : List Sec) : List UInt8 := headL v (bodyL l).length ++ bodyL l
def wholeL (t : List UInt8) : List UInt8 := t ++ Crc.le4 (Crc.sum t)
def goodV (v : UInt8) : Bool := decide (1 ≤ v.toNat) && decide (v.toNat ≤ 3)
/-- Why there is no image. -/
def buildN (v : UInt8) (l : List Sec) : Nat := if goodV v = false then 8 else if risesL l = false then 9 else 0
def buildS (v : UInt8) (l : List Sec) : ByteArray := if buildN v l = 0 then ⟨(wholeL (bareL v l)).toArray⟩ else ⟨#[]⟩

/-- The sections in some bytes. -/
def splitB : Nat → ByteArray → Option (List Sec)
  | 0, _ => none
  | f + 1, b =>
    if b.size = 0 then some []
    else if b.size < 5 then none
    else if b.size - 5 < Nums.numL (b.extract 1 5).data.toList then none
    else match splitB f (b.extract (5 + Nums.numL (b.extract 1 5).data.toList) b.size) with
      | none => none
      | some l => some (⟨b.data.toList.headD 0, b.extract 5 (5 + Nums.numL (b.extract 1 5).data.toList)⟩ :: l)
def sumOk (s : ByteArray) : Bool := decide ((s.extract (s.size - 4) s.size).data.toList = Crc.le4 (Crc.sum (s.extract 0 (s.size - 4)).data.toList))
def verB (s : ByteArray) : UInt8 := s.data.toList.getD 4 0
def lenB (s : ByteArray) : Nat := Nums.numL (s.extract 5 9).data.toList
/-- Why an image can't be opened. -/
def openN (s : ByteArray) : Nat :=
  if s.size < 13 then 2
  else if (s.extract 0 4).data.toList ≠ [71, 82, 68, 82] then 7
  else if goodV (verB s) = false then 8
  else if s.size - 13 < lenB s then 2
  else if lenB s < s.size - 13 then 3
  else if sumOk s = false then 5
  else 0
def insideB (s : ByteArray) : ByteArray := s.extract 9 (s.size - 4)
def parseN (s : ByteArray) : Nat := if openN s ≠ 0 then openN s else match splitB (s.size + 1) (insideB s) with
  | none => 4
  | some l => if risesL l then 0 else 9
def parseV (s : ByteArray) : UInt8 := if parseN s = 0 then verB s else 0
def parseL (s : ByteArray) : List Sec := if parseN s = 0 then (splitB (s.size + 1) (insideB s)).getD [] else []

theorem le4_len (n : Nat) : (Crc.le4 n).length = 4 := rfl
theorem headL_len (v : UInt8) (n : Nat) : (headL v n).length = 9 := by simp [headL, Nums.bytesN_length]
theorem bytes_len (s : Sec) : s.bytes.length = 5 + s.d.size := by
  simp [Sec.bytes, Nums.bytesN_length]
  have : s.d.data.size = s.d.size := rfl
  omega
theorem wholeL_len (v : UInt8) (l : List Sec) : (wholeL (bareL v l)).length = 13 + (bodyL l).length := by
  simp [wholeL, bareL, headL_len, le4_len]
  omega
theorem ext_list (b : ByteArray) (i j : Nat) : (b.extract i j).data.toList = (b.data.toList.drop i).take (j - i) := by
  simp only [ByteArray.data_extract, Array.toList_extract, List.extract_eq_take_drop]
theorem size_list (b : ByteArray) : b.data.toList.length = b.size := by rw [Array.length_toList]; rfl
theorem bytes_ext {a b : ByteArray} (h : a.data.toList = b.data.toList) : a = b := ByteArray.ext (Array.toList_inj.1 h)
theorem mk_size (l : List UInt8) : (⟨l.toArray⟩ : ByteArray).size = l.length := by show l.toArray.size = _; simp
theorem numL_size {n : Nat} (h : n < 4294967296) : Nums.numL (Nums.bytesN n 4) = n := by rw [Nums.numL_bytesN]; exact Nat.mod_eq_of_lt (by omega)
theorem bytesN_numL (l : List UInt8) : Nums.bytesN (Nums.numL l) l.length = l := by
  induction l with
  | nil => rfl
  | cons c l ih =>
    have e : ∀ k x y : Nat, k ≤ l.length → Nums.bytesN (x * 256 ^ l.length + y) k = Nums.bytesN y k := by
      intro k
      induction k with
      | zero => intro x y _; rfl
      | succ k ihk =>
        intro x y hk
        show UInt8.ofNat (_ / 256 ^ k % 256) :: Nums.bytesN _ k = UInt8.ofNat (y / 256 ^ k % 256) :: Nums.bytesN y k
        rw [ihk x y (by omega)]
        congr 2
        have p : 256 ^ l.length = 256 ^ k * (256 * 256 ^ (l.length - k - 1)) := by
          rw [← Nat.pow_succ', ← Nat.pow_add]
          congr 1
          omega
        rw [p, show x * (256 ^ k * (256 * 256 ^ (l.length - k - 1))) + y = y + 256 ^ k * (256 * (x * 256 ^ (l.length - k - 1))) by rw [Nat.add_comm]; congr 1; rw [Nat.mul_left_comm]; congr 1; rw [Nat.mul_left_comm], Nat.add_mul_div_left _ _ (Nat.pow_pos (by omega)), Nat.add_mul_mod_self_left]
    rw [Nums.numL_cons, List.length_cons]
    show UInt8.ofNat (_ / 256 ^ l.length % 256) :: Nums.bytesN _ l.length = _
    have lt := Nums.numL_lt l
    rw [e l.length _ _ (Nat.le_refl _), ih, Nat.add_comm, Nat.add_mul_div_right _ _ (Nat.pow_pos (by omega)), Nat.div_eq_of_lt lt, Nat.zero_add, Nat.mod_eq_of_lt c.toNat_lt]
    simp
theorem drop_app {α : Type} {a b : List α} {n : Nat} (h : a.length = n) : (a ++ b).drop n = b := by subst h; simp
theorem take_app {α : Type} {a b : List α} {n : Nat} (h : a.length = n) : (a ++ b).take n = a := by subst h; simp

/-- What is built is split again. -/
theorem split_body (l : List Sec) (hl : ∀ s ∈ l, s.d.size < 4294967296) : ∀ (f : Nat) (b : ByteArray), b.data.toList = bodyL l → b.size < f → splitB f b = some l := by
  induction l with
  | nil =>
    intro f b hb hf
    obtain ⟨f, rfl⟩ : ∃ g, f = g + 1 := ⟨f - 1, by omega⟩
    have : b.size = 0 := by rw [← size_list, hb]; rfl
    simp [splitB, this]
  | cons s l ih =>
    intro f b hb hf
    obtain ⟨f, rfl⟩ : ∃ g, f = g + 1 := ⟨f - 1, by omega⟩
    have hb2 : b.data.toList = s.k :: (Nums.bytesN s.d.size 4 ++ (s.d.data.toList ++ bodyL l)) := by rw [hb]; simp [bodyL, Sec.bytes]
    have hsz : b.size = 5 + s.d.size + (bodyL l).length := by
      rw [← size_list, hb]
      show ((s :: l).flatMap Sec.bytes).length = _
      rw [List.flatMap_cons, List.length_append, bytes_len]
      rfl
    have e1 : (b.extract 1 5).data.toList = Nums.bytesN s.d.size 4 := by
      rw [ext_list, hb2]
      show (Nums.bytesN s.d.size 4 ++ _).take 4 = _
      exact take_app (Nums.bytesN_length _ _)
    have hn : Nums.numL (b.extract 1 5).data.toList = s.d.size := by rw [e1]; exact numL_size (hl s (by simp))
    have d5 : b.data.toList.drop 5 = s.d.data.toList ++ bodyL l := by
      rw [hb2]
      show (Nums.bytesN s.d.size 4 ++ _).drop 4 = _
      exact drop_app (Nums.bytesN_length _ _)
    unfold splitB
    rw [if_neg (by omega), if_neg (by omega), hn, if_neg (by omega)]
    have e2 : b.extract 5 (5 + s.d.size) = s.d := bytes_ext (by rw [ext_list, d5, Nat.add_sub_cancel_left]; exact take_app (size_list _))
    have e3 : (b.extract (5 + s.d.size) b.size).data.toList = bodyL l := by
      rw [ext_list, ← List.drop_drop, d5, drop_app (size_list _)]
      exact List.take_of_length_le (by omega)
    have hz : (b.extract (5 + s.d.size) b.size).size < f := by rw [← size_list, e3]; omega
    rw [ih (fun x hx => hl x (by simp [hx])) f _ e3 hz, e2, hb2]
    rfl
/-- What is split is built again. -/
theorem body_split : ∀ (f : Nat) (b : ByteArray) (l : List Sec), splitB f b = some l → bodyL l = b.data.toList ∧ ∀ s ∈ l, s.d.size ≤ b.size := by
  intro f
  induction f with
  | zero => intro b l h; cases h
  | succ f ih =>
    intro b l h
    unfold splitB at h
    split at h
    · next c =>
      cases h
      refine ⟨?_, by simp⟩
      exact (List.eq_nil_of_length_eq_zero (by rw [size_list]; exact c)).symm
    · next c0 =>
      split at h
      · cases h
      · next c =>
        split at h
        · cases h
        · next c2 =>
          split at h
          · cases h
          · next m hm =>
            cases h
            obtain ⟨h1, h2⟩ := ih _ _ hm
            obtain ⟨n, hn⟩ : ∃ n, n = Nums.numL (b.extract 1 5).data.toList := ⟨_, rfl⟩
            rw [← hn] at c2 h1 h2 ⊢
            have z1 : (b.extract 5 (5 + n)).size = n := by rw [← size_list, ext_list, List.length_take, List.length_drop, size_list]; omega
            have z2 : (b.extract (5 + n) b.size).size = b.size - (5 + n) := by rw [← size_list, ext_list, List.length_take, List.length_drop, size_list]; omega
            have l4 : (b.extract 1 5).data.toList.length = 4 := by rw [ext_list, List.length_take, List.length_drop, size_list]; omega
            have e4 : Nums.bytesN n 4 = (b.extract 1 5).data.toList := by
              have := bytesN_numL (b.extract 1 5).data.toList
              rw [l4, ← hn] at this
              exact this
            refine ⟨?_, ?_⟩
            · show Sec.bytes _ ++ bodyL m = _
              rw [h1]
              unfold Sec.bytes
              simp only []
              rw [z1, e4, ext_list, ext_list, ext_list]
              obtain ⟨L, hL⟩ : ∃ L, L = b.data.toList := ⟨_, rfl⟩
              have len : L.length = b.size := by rw [hL]; exact size_list b
              rw [← hL, Nat.add_sub_cancel_left]
              match L, len with
              | [], len => simp at len; omega
              | x :: L, len =>
                simp only [List.length_cons] at len
                show x :: ((L.take 4 ++ (L.drop 4).take n) ++ (((x :: L).drop (5 + n)).take (b.size - (5 + n)))) = x :: L
                have t : (L.drop (4 + n)).take (b.size - (4 + n + 1)) = L.drop (4 + n) := List.take_of_length_le (by rw [List.length_drop]; omega)
                rw [show 5 + n = (4 + n) + 1 by omega, List.drop_succ_cons, t, List.append_assoc, ← List.drop_drop, List.take_append_drop, List.take_append_drop]
            · intro s hs
              rcases List.mem_cons.1 hs with rfl | hs
              · show (b.extract 5 (5 + n)).size ≤ _
                omega
              · have := h2 s hs
                omega
theorem whole_at (v : UInt8) (l : List Sec) (s : ByteArray) (h : s.data.toList = wholeL (bareL v l)) (hb : (bodyL l).length < 4294967296) :
    s.size = 13 + (bodyL l).length ∧ (s.extract 0 4).data.toList = [71, 82, 68, 82] ∧ verB s = v ∧ lenB s = (bodyL l).length ∧ sumOk s = true ∧ (insideB s).data.toList = bodyL l := by
  have hz : s.size = 13 + (bodyL l).length := by rw [← size_list, h, wholeL_len]
  have h2 : s.data.toList = [71, 82, 68, 82] ++ (v :: (Nums.bytesN (bodyL l).length 4 ++ (bodyL l ++ Crc.le4 (Crc.sum (bareL v l))))) := by
    rw [h]
    simp [wholeL, bareL, headL]
  have hbl : (bareL v l).length = 9 + (bodyL l).length := by simp [bareL, headL_len]
  refine ⟨hz, ?_, ?_, ?_, ?_, ?_⟩
  · rw [ext_list, h2]; rfl
  · unfold verB; rw [h2]; rfl
  · unfold lenB
    rw [ext_list, h2]
    show Nums.numL ((Nums.bytesN (bodyL l).length 4 ++ _).take 4) = _
    rw [take_app (Nums.bytesN_length _ _)]
    exact numL_size hb
  · unfold sumOk
    rw [decide_eq_true_iff, ext_list, ext_list, h, hz]
    unfold wholeL
    rw [drop_app (by omega), List.drop_zero, take_app (by omega)]
    exact List.take_of_length_le (by rw [le4_len]; omega)
  · unfold insideB
    rw [ext_list, h2, hz]
    show (List.drop 4 (Nums.bytesN (bodyL l).length 4 ++ _)).take _ = _
    rw [drop_app (Nums.bytesN_length _ _)]
    exact take_app (by omega)
theorem goodV_iff (v : UInt8) : goodV v = true ↔ 1 ≤ v.toNat ∧ v.toNat ≤ 3 := by simp [goodV]
/-- An image is read again. -/
theorem parse_build {v : UInt8} {l : List Sec} (h0 : buildN v l = 0) (hb : (bodyL l).length < 4294967296) (hl : ∀ s ∈ l, s.d.size < 4294967296) : parseN (buildS v l) = 0 ∧ parseV (buildS v l) = v ∧ parseL (buildS v l) = l := by
  obtain ⟨s, hs⟩ : ∃ s, s = buildS v l := ⟨_, rfl⟩
  rw [← hs]
  have h : s.data.toList = wholeL (bareL v l) := by rw [hs]; unfold buildS; rw [if_pos h0]
  obtain ⟨h1, h2, h3, h4, h5, h6⟩ := whole_at v l s h hb
  have gv : goodV v = true := by
    cases c : goodV v with
    | true => rfl
    | false => unfold buildN at h0; rw [if_pos c] at h0; cases h0
  have ri : risesL l = true := by
    cases c : risesL l with
    | true => rfl
    | false => unfold buildN at h0; rw [if_neg (by rw [gv]; decide), if_pos c] at h0; cases h0
  have o : openN s = 0 := by
    unfold openN
    rw [if_neg (by omega), if_neg (by rw [h2]; simp), if_neg (by rw [h3, gv]; decide), if_neg (by omega), if_neg (by omega), if_neg (by rw [h5]; decide)]
  have sp : splitB (s.size + 1) (insideB s) = some l := split_body l hl _ _ h6 (by rw [← size_list, h6]; omega)
  have p : parseN s = 0 := by unfold parseN; rw [if_neg (by rw [o]; decide), sp]; simp [ri]
  refine ⟨p, ?_, ?_⟩
  · unfold parseV; rw [if_pos p, h3]
  · unfold parseL; rw [if_pos p, sp]; rfl
/-- What is read is an image. -/
theorem build_parse {s : ByteArray} (h : parseN s = 0) : buildN (parseV s) (parseL s) = 0 ∧ buildS (parseV s) (parseL s) = s ∧ (bodyL (parseL s)).length ≤ s.size ∧ ∀ x ∈ parseL s, x.d.size ≤ s.size := by
  have o : openN s = 0 := by
    rcases Nat.eq_zero_or_pos (openN s) with c | c
    · exact c
    · unfold parseN at h; rw [if_pos (by omega)] at h; omega
  obtain ⟨l, sp, ri⟩ : ∃ l, splitB (s.size + 1) (insideB s) = some l ∧ risesL l = true := by
    unfold parseN at h
    rw [if_neg (by rw [o]; decide)] at h
    split at h
    · cases h
    · next l hl =>
      split at h
      · next c => exact ⟨l, hl, c⟩
      · cases h
  have ev : parseV s = verB s := by unfold parseV; rw [if_pos h]
  have el : parseL s = l := by unfold parseL; rw [if_pos h, sp]; rfl
  rw [ev, el]
  unfold openN at o
  split at o; · cases o
  next c1 =>
  split at o; · cases o
  next c2 =>
  split at o; · cases o
  next c3 =>
  split at o; · cases o
  next c4 =>
  split at o; · cases o
  next c5 =>
  split at o; · cases o
  next c6 =>
  have gv : goodV (verB s) = true := by simpa using c3
  have c2 : (s.extract 0 4).data.toList = [71, 82, 68, 82] := by simpa using c2
  have so : sumOk s = true := by simpa using c6
  have n0 : buildN (verB s) l = 0 := by unfold buildN; rw [if_neg (by rw [gv]; decide), if_neg (by rw [ri]; decide)]
  obtain ⟨hb, hd⟩ := body_split _ _ _ sp
  have zi : (insideB s).size = s.size - 13 := by unfold insideB; rw [← size_list, ext_list, List.length_take, List.length_drop, size_list]; omega
  have bl : (bodyL l).length = s.size - 13 := by rw [hb, size_list, zi]
  refine ⟨n0, ?_, by omega, fun x hx => by have := hd x hx; omega⟩
  unfold buildS
  rw [if_pos n0]
  refine bytes_ext ?_
  show wholeL (bareL (verB s) l) = _
  have l4 : (s.extract 5 9).data.toList.length = 4 := by rw [ext_list, List.length_take, List.length_drop, size_list]; omega
  have e4 : Nums.bytesN (bodyL l).length 4 = (s.extract 5 9).data.toList := by
    have := bytesN_numL (s.extract 5 9).data.toList
    rw [l4] at this
    rw [bl, show s.size - 13 = lenB s by omega]
    exact this
  have ebare : bareL (verB s) l = s.data.toList.take (s.size - 4) := by
    unfold bareL headL
    rw [e4, hb, ← c2]
    unfold insideB verB
    rw [ext_list, ext_list, ext_list]
    obtain ⟨L, hL⟩ : ∃ L, L = s.data.toList := ⟨_, rfl⟩
    have len : L.length = s.size := by rw [hL]; exact size_list s
    rw [← hL]
    generalize s.size = n at *
    match L, len with
    | x0 :: x1 :: x2 :: x3 :: x4 :: L, len =>
      simp only [List.length_cons] at len
      show x0 :: x1 :: x2 :: x3 :: x4 :: (L.take 4 ++ (L.drop 4).take (n - 4 - 9)) = (x0 :: x1 :: x2 :: x3 :: x4 :: L).take (n - 4)
      obtain ⟨m, rfl⟩ : ∃ m, n = m + 13 := ⟨n - 13, by omega⟩
      rw [show m + 13 - 4 = (m + 4) + 1 + 1 + 1 + 1 + 1 by omega]
      simp only [List.take_succ_cons]
      rw [show m + 4 + 1 + 1 + 1 + 1 + 1 - 9 = m by omega, Nat.add_comm m 4, List.take_add]
    | [], len => simp at len; omega
    | [_], len => simp at len; omega
    | [_, _], len => simp at len; omega
    | [_, _, _], len => simp at len; omega
    | [_, _, _, _], len => simp at len; omega
  unfold wholeL
  rw [ebare]
  unfold sumOk at so
  rw [decide_eq_true_iff, ext_list, ext_list, Nat.sub_zero, List.drop_zero] at so
  have t : (s.data.toList.drop (s.size - 4)).take (s.size - (s.size - 4)) = s.data.toList.drop (s.size - 4) := List.take_of_length_le (by rw [List.length_drop, size_list]; exact Nat.le_refl _)
  rw [t] at so
  rw [← so, List.take_append_drop]
end Go.Proofs.Ytmbafeemiclmeaa
