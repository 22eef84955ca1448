/- A PDU's bytes are read as that PDU, whatever stands behind them. -/
import Derived.Test.YtkohnleeiajiiaaDecQ
import Derived.Test.YtkohnleeiajiiaaPREnc
namespace Go.Proofs.Ytkohnleeiajiiaa
open Go.RowKit

theorem posV_chunk (s : ByteArray) (cs : List (List UInt8)) (h : s.data.toList = cs.flatten) (i : Nat) (c : List UInt8) (hc : cs[i]? = some c) (o k : Nat) (ho : (cs.take i).flatten.length = o) (hk : c.length = k) : posV s o k = Nums.numL c := by
  obtain ⟨hi, he⟩ := List.getElem?_eq_some_iff.1 hc
  have e1 : cs = cs.take i ++ (c :: cs.drop (i + 1)) := by
    rw [← he, ← List.drop_eq_getElem_cons hi, List.take_append_drop]
  have e2 : s.data.toList = (cs.take i).flatten ++ (c ++ (cs.drop (i + 1)).flatten) := by
    rw [h]
    conv => lhs; rw [e1]
    rw [List.flatten_append, List.flatten_cons]
  unfold posV
  rw [e2, ← ho, List.drop_left, ← hk, List.take_left]

/-- The places of a PDU of kind 0 or 2. -/
def chunks (p : Pd) (more : ByteArray) : List (List UInt8) :=
  [[66, 66, 3, 0, 0], Nums.bytesN (verN p.kind) 1, Nums.bytesN p.kind 1, Nums.bytesN (packN (flV p)) 1, Nums.bytesN p.root 8, Nums.bytesN p.cost 4, Nums.bytesN p.bridge 8,
    Nums.bytesN p.port 2, Nums.bytesN p.age 2, Nums.bytesN p.maxAge 2, Nums.bytesN p.hello 2, Nums.bytesN p.delay 2, (endS p.kind).data.toList, more.data.toList]

theorem bS_list (x k : Nat) : (bS x k).data.toList = Nums.bytesN x k := rfl
theorem app_list (a b : ByteArray) : (a ++ b).data.toList = a.data.toList ++ b.data.toList := by
  rw [ByteArray.data_append, Array.toList_append]

theorem raw_list (p : Pd) (more : ByteArray) (h : p.kind ≠ 128) : (rawS p ++ more).data.toList = (chunks p more).flatten := by
  unfold rawS
  rw [if_neg h]
  have e : accS p 5 = (((((f4S p) ++ bS p.port 2) ++ bS p.age 2) ++ bS p.maxAge 2) ++ bS p.hello 2) ++ bS p.delay 2 := rfl
  rw [e]
  unfold f4S hdS
  simp only [app_list, bS_list, chunks, List.flatten_cons, List.flatten_nil, List.append_nil, List.append_assoc]
  rfl

theorem one_byte (s : ByteArray) (a : Nat) (h : a + 1 ≤ s.size) : byteAt' s a = posV s a 1 := (num1 s a h).symm

theorem numL_b (x k n : Nat) (hn : n = 256 ^ k) (h : x < n) : Nums.numL (Nums.bytesN x k) = x := by
  rw [Nums.numL_bytesN, ← hn]
  exact Nat.mod_eq_of_lt h

theorem front_ext (s : ByteArray) (l : List UInt8) (h : s.data.toList = [66, 66, 3, 0, 0] ++ l) : s.extract 0 5 = frontS := by
  apply ByteArray.ext
  apply Array.ext'
  rw [ext_list, h]
  rfl

theorem verN_lt (k : Nat) : verN k < 256 := by unfold verN; split <;> omega

theorem flags_back (p : Pd) (f : Nat) (h : p.role < 4) (hf : f = packN (flV p)) :
    decide (f % 2 = 1) = p.top ∧ decide (f / 2 % 2 = 1) = p.prop ∧ decide (f / 16 % 2 = 1) = p.lrn ∧ decide (f / 32 % 2 = 1) = p.fwd ∧ decide (f / 64 % 2 = 1) = p.agr ∧ decide (f / 128 = 1) = p.ack ∧ f / 4 % 4 = p.role ∧ f < 256 := by
  rw [pack_sum p h] at hf
  obtain ⟨k, t1, t2, t3, t4, t5, t6, r, a, b, c, d, e, g, i, j⟩ := p
  simp only at hf h ⊢
  have hb : ∀ b : Bool, b.toNat = 0 ∧ b = false ∨ b.toNat = 1 ∧ b = true := fun b => by cases b <;> simp
  have s : ∀ (n : Nat) (b : Bool), n = b.toNat → decide (n = 1) = b := fun n b hn => by rw [hn]; cases b <;> rfl
  have l : ∀ b : Bool, b.toNat ≤ 1 := fun b => by cases b <;> decide
  have l1 := l t1; have l2 := l t2; have l3 := l t3; have l4 := l t4; have l5 := l t5; have l6 := l t6
  exact ⟨s _ _ (by omega), s _ _ (by omega), s _ _ (by omega), s _ _ (by omega), s _ _ (by omega), s _ _ (by omega), by omega, by omega⟩

theorem dec_enc (p : Pd) (hok : p.ok) (hg : goodP p = true) (more : ByteArray) : decE (rawS p ++ more) = 0 ∧ decP (rawS p ++ more) = p := by
  obtain ⟨s, hs⟩ : ∃ s, s = rawS p ++ more := ⟨_, rfl⟩
  have hz : s.size = (rawS p).size + more.size := by rw [hs, app_size]
  rw [← hs]
  obtain ⟨k1, k2, k3, k4, k5, k6, k7, k8, k9, k10⟩ := hok
  by_cases h128 : p.kind = 128
  · have hp : p = kindP 128 := by
      rcases good_kind hg with h | h | h
      · omega
      · omega
      · exact h
    have e : s.data.toList = [66, 66, 3, 0, 0] ++ ([0, 128] ++ more.data.toList) := by
      rw [hs, app_list]
      unfold rawS
      rw [if_pos h128, hp]
      rfl
    have z : (rawS p).size = 7 := by unfold rawS; rw [if_pos h128, hdS_size]
    have e5 : vB s = 0 := by
      unfold vB
      rw [one_byte s 5 (by omega), posV_chunk s [[66, 66, 3, 0, 0], [0], [128], more.data.toList] (by rw [e]; simp) 1 [0] rfl 5 1 rfl rfl]
      rfl
    have e6 : kB s = 128 := by
      unfold kB
      rw [one_byte s 6 (by omega), posV_chunk s [[66, 66, 3, 0, 0], [0], [128], more.data.toList] (by rw [e]; simp) 2 [128] rfl 6 1 rfl rfl]
      rfl
    have E : decE s = 0 := by
      unfold decE
      rw [if_neg (by omega), if_neg (by rw [front_ext s _ e]; simp), if_neg (by rw [e5, e6]; exact fun c => c ⟨rfl, rfl⟩), if_pos e6]
    refine ⟨E, ?_⟩
    unfold decP
    rw [if_pos E, if_pos e6, hp]
  · have e := raw_list p more h128
    rw [← hs] at e
    have hk : (p.kind = 0 ∨ p.kind = 2) ∧ p.role < 4 := by
      rcases good_kind hg with h | h | h
      · omega
      · omega
      · exact absurd (by rw [h]; rfl) h128
    have z : (rawS p).size = needN p.kind := by
      unfold rawS
      rw [if_neg h128, app_size, app_size, hdS_size, accS_size]
      rcases hk.1 with h | h <;> rw [h] <;> rfl
    have z38 : 38 ≤ s.size := by
      rw [hz, z]; unfold needN; split <;> omega
    obtain ⟨cs, hcs⟩ : ∃ cs, cs = chunks p more := ⟨_, rfl⟩
    have c (i : Nat) (x k n : Nat) (hn : n = 256 ^ k) (h : x < n) (o : Nat) (hi : (chunks p more)[i]? = some (Nums.bytesN x k)) (ho : ((chunks p more).take i).flatten.length = o) : posV s o k = x := by
      rw [posV_chunk s _ e i _ hi o k ho (Nums.bytesN_length _ _), numL_b x k n hn h]
    have len (i : Nat) (o : Nat) (h : (((chunks p more).map List.length).take i).sum = o) : ((chunks p more).take i).flatten.length = o := by
      rw [List.length_flatten, List.map_take, h]
    have lm : (chunks p more).map List.length = [5, 1, 1, 1, 8, 4, 8, 2, 2, 2, 2, 2, (endS p.kind).data.toList.length, more.data.toList.length] := by
      simp only [chunks, List.map_cons, List.map_nil, Nums.bytesN_length]
      rfl
    have e5 : vB s = verN p.kind := by
      unfold vB; rw [one_byte s 5 (by omega)]; exact c 1 _ 1 256 rfl (verN_lt _) 5 rfl (len 1 5 (by rw [lm]; rfl))
    have e6 : kB s = p.kind := by
      unfold kB; rw [one_byte s 6 (by omega)]; exact c 2 _ 1 256 rfl k1 6 rfl (len 2 6 (by rw [lm]; rfl))
    obtain ⟨f, hf⟩ : ∃ f, f = packN (flV p) := ⟨_, rfl⟩
    obtain ⟨b1, b2, b3, b4, b5, b6, b7, b8⟩ := flags_back p f hk.2 hf
    have e7 : byteAt' s 7 = f := by
      rw [one_byte s 7 (by omega)]; exact c 3 _ 1 256 rfl b8 7 (by rw [hf]; rfl) (len 3 7 (by rw [lm]; rfl))
    have Q : decQ s = p := by
      rw [decQ_at s z38, e6, e7]
      unfold atP
      rw [b1, b2, b3, b4, b5, b6, b7, c 4 p.root 8 _ rfl k3 8 rfl (len 4 8 (by rw [lm]; rfl)), c 5 p.cost 4 _ rfl k4 16 rfl (len 5 16 (by rw [lm]; rfl)), c 6 p.bridge 8 _ rfl k5 20 rfl (len 6 20 (by rw [lm]; rfl)),
        c 7 p.port 2 _ rfl k6 28 rfl (len 7 28 (by rw [lm]; rfl)), c 8 p.age 2 _ rfl k7 30 rfl (len 8 30 (by rw [lm]; rfl)), c 9 p.maxAge 2 _ rfl k8 32 rfl (len 9 32 (by rw [lm]; rfl)), c 10 p.hello 2 _ rfl k9 34 rfl (len 10 34 (by rw [lm]; rfl)), c 11 p.delay 2 _ rfl k10 36 rfl (len 11 36 (by rw [lm]; rfl))]
    have hend : kB s = 2 → byteAt' s 38 = 0 := by
      intro h2
      rw [e6] at h2
      have z39 : 39 ≤ s.size := by rw [hz, z, h2]; unfold needN; rw [if_pos rfl]; omega
      rw [one_byte s 38 (by omega)]
      have hi : (chunks p more)[12]? = some (Nums.bytesN 0 1) := by
        show some (endS p.kind).data.toList = _
        rw [h2]
        rfl
      exact c 12 0 1 256 rfl (by omega) 38 hi (len 12 38 (by rw [lm]; rfl))
    have ko : kindOk p.kind = true := by rcases hk.1 with h | h <;> rw [h] <;> rfl
    have hf5 : s.extract 0 5 = frontS := front_ext s (chunks p more).tail.flatten (by rw [e]; rfl)
    have E : decE s = 0 := by
      unfold decE
      rw [if_neg (by omega), if_neg (by rw [hf5]; simp), if_neg (by rw [e5, e6]; exact fun c => c ⟨ko, rfl⟩), if_neg (by rw [e6]; exact h128), if_neg (by rw [e6, hz, z]; omega), if_neg (by rw [Q]; exact fun c => c ⟨hg, hend⟩)]
    refine ⟨E, ?_⟩
    unfold decP
    rw [if_pos E, if_neg (by rw [e6]; exact h128), Q]
end Go.Proofs.Ytkohnleeiajiiaa
