/- The statement TlvRots, walked. -/
import Derived.Test.YtmbafeemiclmeaaTv11
import Derived.Test.YtmbafeemiclmeaaLits
namespace Go.Proofs.Ytmbafeemiclmeaa
open Go.RowKit
set_option linter.unusedSimpArgs false
set_option linter.unusedVariables false

theorem openN_zero {s : ByteArray} (h : openN s = 0) : 13 ≤ s.size ∧ lenB s = s.size - 13 ∧ sumOk s = true := by
  unfold openN at h
  split at h; · cases h
  next c1 =>
  split at h; · cases h
  next c2 =>
  split at h; · cases h
  next c3 =>
  split at h; · cases h
  next c4 =>
  split at h; · cases h
  next c5 =>
  split at h; · cases h
  next c6 => exact ⟨by omega, by omega, by simpa using c6⟩
theorem openN_of {s : ByteArray} (h : parseN s = 0) : openN s = 0 := by
  rcases Nat.eq_zero_or_pos (openN s) with c | c
  · exact c
  · unfold parseN at h; rw [if_pos (by omega)] at h; omega
theorem ext_app (s m : ByteArray) (i j : Nat) (h : j ≤ s.size) : (s ++ m).extract i j = s.extract i j := by
  refine bytes_ext ?_
  rw [ext_list, ext_list, ByteArray.data_append, Array.toList_append]
  by_cases c : i ≤ s.size
  · rw [List.drop_append_of_le_length (by rw [size_list]; exact c), List.take_append_of_le_length (by rw [List.length_drop, size_list]; omega)]
  · rw [show j - i = 0 by omega]; rfl
theorem rot_cut {s : ByteArray} {v : UInt8} {l : List Sec} (hs : s = buildS v l) (h0 : buildN v l = 0) (hb : (bodyL l).length < 4294967296) {c : Nat} (hc : c < s.size) : parseN (s.extract 0 c) ≠ 0 := fun h => by
  have hl : s.data.toList = wholeL (bareL v l) := by rw [hs]; unfold buildS; rw [if_pos h0]
  obtain ⟨h1, -, -, h4, -, -⟩ := whole_at v l s hl hb
  obtain ⟨q1, q2, -⟩ := openN_zero (openN_of h)
  have z : (s.extract 0 c).size = c := by rw [ext_size _ _ _ (by omega)]; rfl
  rw [z] at q1 q2
  have e : lenB (s.extract 0 c) = lenB s := by
    have e2 : (s.extract 0 c).extract 5 9 = s.extract 5 9 := bytes_ext (by
      rw [ext_list, ext_list, ext_list, List.drop_zero, Nat.sub_zero, List.drop_take, List.take_take, show min (9 - 5) (c - 5) = 9 - 5 by omega])
    unfold lenB
    rw [e2]
  omega
theorem rot_more {s m : ByteArray} {v : UInt8} {l : List Sec} (hs : s = buildS v l) (h0 : buildN v l = 0) (hb : (bodyL l).length < 4294967296) (hm : 0 < m.size) : parseN (s ++ m) ≠ 0 := fun h => by
  have hl : s.data.toList = wholeL (bareL v l) := by rw [hs]; unfold buildS; rw [if_pos h0]
  obtain ⟨h1, -, -, h4, -, -⟩ := whole_at v l s hl hb
  obtain ⟨q1, q2, -⟩ := openN_zero (openN_of h)
  have e : lenB (s ++ m) = lenB s := by unfold lenB; rw [ext_app _ _ _ _ (by omega)]
  rw [ByteArray.size_append] at q2
  omega
theorem rot_turn {s : ByteArray} {v : UInt8} {l : List Sec} {a : Int} {b : Nat} (hs : s = buildS v l) (h0 : buildN v l = 0) (hne : turnS s a b ≠ s) : parseN (turnS s a b) ≠ 0 := fun h => by
  have hl : s.data.toList = wholeL (bareL v l) := by rw [hs]; unfold buildS; rw [if_pos h0]
  obtain ⟨q1, -, q3⟩ := openN_zero (openN_of h)
  have ht : (turnS s a b).data.toList = Crc.turn s.data.toList a.toNat b := by
    unfold turnS at hne ⊢
    split
    · rfl
    · rename_i c
      rw [if_neg c] at hne
      exact absurd rfl hne
  obtain ⟨T, hT⟩ : ∃ T, T = turnS s a b := ⟨_, rfl⟩
  rw [← hT] at h q1 q3 ht hne
  unfold sumOk at q3
  rw [decide_eq_true_iff] at q3
  have hsp : T.data.toList = (T.extract 0 (T.size - 4)).data.toList ++ (T.extract (T.size - 4) T.size).data.toList := by
    rw [ext_list, ext_list, List.drop_zero, Nat.sub_zero, List.take_of_length_le (l := List.drop (T.size - 4) T.data.toList) (by rw [List.length_drop, size_list]; exact Nat.le_refl _), List.take_append_drop]
  have hne2 : Crc.turn (bareL v l ++ Crc.le4 (Crc.sum (bareL v l))) a.toNat b ≠ bareL v l ++ Crc.le4 (Crc.sum (bareL v l)) := fun e => hne (bytes_ext (by
    rw [ht, hl]
    exact e))
  have ht2 : Crc.turn (bareL v l ++ Crc.le4 (Crc.sum (bareL v l))) a.toNat b = (T.extract 0 (T.size - 4)).data.toList ++ (T.extract (T.size - 4) T.size).data.toList := by
    rw [← hsp, ht, hl]
    rfl
  refine Crc.burst (bareL v l) a.toNat b _ _ (by rw [q3]; rfl) ht2 hne2 ?_
  rw [q3, Crc.num_le4 _ (Crc.sum_lt _)]
theorem turn_size (X : ByteArray) (a : Int) (b : Nat) : (turnS X a b).size = X.size := by
  unfold turnS
  split
  · show (Crc.turn X.data.toList a.toNat b).toArray.size = X.data.size
    unfold Crc.turn
    rw [List.size_toArray, Crc.turnK_length, Array.length_toList]
  · rfl
set_option maxRecDepth 100000 in
set_option maxHeartbeats 4000000 in
theorem rots_walk (x : Nat) (a : Option Addr) (len cap : Nat) (l : List Sec) (c : Nat) (more : ByteArray) (A : Int) (b : Nat) (w : World) (h : IsArg53 w a len cap l) (hx : x < 256) (hc : c < 65536) (hmo : more.size ≤ maxLen) (hA : (Lit.int .i64 A).wf = true) (hbt : b < 4294967296) :
    Calls Try.prog 5 #[.agg #[.int .u8 x, .slice a len cap, .int .u16 c, .string more], .int .i64 A, .int .u32 b] w fun e w' => e = .returned (.bool true) ∧ Below w.heap.size w w' := by
  have HA := Lib.hid h
  have HAA := Lib.hid hA
  unfold maxLen at hmo
  have hmo : more.size ≤ 9223372036854775807 := hmo
  obtain ⟨sl, hsl⟩ : ∃ s, s = Value.slice a len cap := ⟨_, rfl⟩
  obtain ⟨vb, hvb⟩ : ∃ v : UInt8, v = UInt8.ofNat (1 + x % 3) := ⟨_, rfl⟩
  have hvn : vb.toNat = 1 + x % 3 := by rw [hvb, UInt8.toNat_ofNat']; exact Nat.mod_eq_of_lt (by omega)
  obtain ⟨m, hm⟩ : ∃ m, m = bothL l := ⟨_, rfl⟩
  obtain ⟨S, hS⟩ : ∃ S, S = buildS vb m := ⟨_, rfl⟩
  obtain ⟨N, hN⟩ : ∃ N, N = buildN vb m := ⟨_, rfl⟩
  have hmb : (bodyL m).length ≤ 360 := by rw [hm]; exact both_body l
  have hml : m.length ≤ 8 := by rw [hm]; exact both_len l
  have hSs : S.size ≤ 373 := by rw [hS]; have := build_size vb m; omega
  have HSP := Lib.hid fun w => speaks_any w
  have HBO := Lib.hid fun w (h : IsArg53 w a len cap l) => both_any h
  have HBU := Lib.hid fun w sv (h : SL w sv m) => build_any vb h (by omega) (by omega)
  rw [← hm, ← hsl] at HBO
  rw [← hS, ← hN] at HBU
  have hgood : N = 0 → 0 < S.size ∧ parseN S = 0 ∧ (∀ c, c < S.size → parseN (S.extract 0 c) ≠ 0) ∧ (∀ m, 0 < m.size → parseN (S ++ m) ≠ 0) ∧ (turnS S A b ≠ S → parseN (turnS S A b) ≠ 0) := fun h0 => by
    have h0' : buildN vb m = 0 := by rw [← hN]; exact h0
    refine ⟨?_, ?_, fun c hc => rot_cut hS h0' (by omega) hc, fun k hk => rot_more hS h0' (by omega) hk, fun hk => rot_turn hS h0' hk⟩
    · rw [hS]; unfold buildS; rw [if_pos h0', mk_size, wholeL_len]; omega
    · rw [hS]; exact (parse_build h0' (by omega) (fun s hs => by rw [hm] at hs; have := both_each l s hs; omega)).1
  have HGD := Lib.hid hgood
  rw [← hsl]
  unfold bv at HBU
  rw [hvn, show ((1 + x % 3 : Nat) : Int) = 1 + (x : Int) % 3 by omega] at HBU
  have HSL := Lib.hid hsl
  clear hgood hS hN hm h hsl hvb hvn hA
  go_enter Try.func5, Try.ntmps5
  go_upto_region 1 with fail
  have hbk := Blk.new w #[.int .u8 (x : Int), sl, .int .u16 (c : Int), .string more] 49
  have hb0 := (Below.refl w.heap.size w).alloc (Nat.le_refl _) (.cells #[.int .u8 (x : Int), sl, .int .u16 (c : Int), .string more] 49)
  generalize hw0 : w.alloc (.cells #[.int .u8 (x : Int), sl, .int .u16 (c : Int), .string more] 49) = w0 at *
  generalize hG : w.heap.size = G at *
  have hGs : G < w0.heap.size := hbk.lt
  have HB0 := Lib.hid hb0
  have HK0 := Lib.hid hbk
  have HA0 := Lib.hid (isArg_next HA.out (by rw [hG]; exact hb0))
  clear hbk hb0 hw0
  go_upto_region 3 with (go_at_call 6; refine (HSP.out _).mono ?_; rintro e w1 ⟨rfl, hb1⟩)
  have HB1 := Lib.hid (HB0.out.trans (hb1.mono (Nat.le_of_lt hGs)))
  have HK1 := Lib.hid (HK0.out.below hb1 hGs)
  have HA1 := Lib.hid (isArg_next HA0.out hb1)
  clear hb1 HB0 HK0 HA0
  have k1 : w1.cell? ⟨G, 1, none⟩ = some sl := HK1.out.cell 1
  go_wp2_with (fail)
  refine (HBO.out _ HA1.out).mono ?_
  rintro e w2 ⟨sv, tv, rfl, ho1, -, hb2⟩
  have HO1 := Lib.hid ho1.sl
  have HB2 := Lib.hid (HB1.out.trans (hb2.mono (Nat.le_of_lt HK1.out.lt)))
  have HK2 := Lib.hid (HK1.out.below hb2 HK1.out.lt)
  clear ho1 hb2 HB1 HK1 HA1 k1
  go_upto_region 4 with fail
  have k0 : w2.cell? ⟨G, 0, none⟩ = some (.int .u8 (x : Int)) := HK2.out.cell 0
  go_wp2_with (fail)
  refine (HBU.out _ _ HO1.out).mono ?_
  rintro e w3 ⟨rfl, hb3⟩
  have HB3 := Lib.hid (HB2.out.trans (hb3.mono (Nat.le_of_lt HK2.out.lt)))
  have HK3 := Lib.hid (HK2.out.below hb3 HK2.out.lt)
  clear hb3 HB2 HK2 HO1 k0
  by_cases c0 : N = 0
  case neg =>
    have c1 : ¬ (N : Int) = 0 := by omega
    go_wp2
    go_ret
    exact ⟨rfl, by rw [hG]; exact HB3.out⟩
  subst c0
  obtain ⟨z0, p0, pc, pm, pt⟩ := HGD.out rfl
  have k2 : w3.cell? ⟨G, 2, none⟩ = some (.int .u16 (c : Int)) := HK3.out.cell 2
  obtain ⟨cc, hcc⟩ : ∃ k, k = c % S.size := ⟨_, rfl⟩
  have hcl : cc < S.size := by rw [hcc]; exact Nat.mod_lt _ z0
  have z1 : ¬ (S.size : Int) = 0 := by omega
  have qc : (c : Int).tmod (S.size : Int) = (cc : Int) := by rw [hcc]; rfl
  have PC := Lib.hid (pc cc hcl)
  have P0 := Lib.hid p0
  have PM := Lib.hid pm
  have PT := Lib.hid pt
  clear hcc p0 pc pm pt
  have qcl : cc ≤ S.size := Nat.le_of_lt hcl
  have qcl2 : (cc : Int) ≤ (S.size : Int) := by omega
  have hz1 : (S.extract 0 cc).size ≤ 1000000 := by rw [ext_size _ _ _ qcl]; omega
  obtain ⟨S1, hS1⟩ : ∃ X, X = S.extract 0 cc := ⟨_, rfl⟩
  have HS1 := Lib.hid hS1
  rw [← hS1] at PC hz1
  clear hS1
  go_upto_region 8 with fail
  clear k2 qc z1
  go_wp2_with (fail)
  rw [← HS1.out]
  obtain ⟨f, hf⟩ : ∃ n, n = parseN S1 := ⟨_, rfl⟩
  have HP := Lib.hid (parse_any S1 w3 hz1)
  rw [← hf] at HP PC
  clear hf
  refine HP.out.mono ?_
  rintro e w4 ⟨v4, rfl, -, hb4⟩
  have HB4 := Lib.hid (HB3.out.trans (hb4.mono (Nat.le_of_lt HK3.out.lt)))
  have HK4 := Lib.hid (HK3.out.below hb4 HK3.out.lt)
  clear hb4 HP HB3 HK3 hz1
  have k3 : w4.cell? ⟨G, 3, none⟩ = some (.string more) := HK4.out.cell 3
  go_upto_region 10 with fail
  rw [show (min (more.size : Int) 30).toNat = min more.size 30 by omega]
  obtain ⟨M, hM⟩ : ∃ X, X = more.extract 0 (min more.size 30) := ⟨_, rfl⟩
  have hMs : M.size ≤ 30 := by rw [hM, ext_size _ _ _ (by omega)]; omega
  rw [← hM]
  have HPM := Lib.hid (PM.out M)
  clear hM k3 qcl qcl2 hcl
  go_wp2_with (fail)
  obtain ⟨S2, hS2⟩ : ∃ X, X = S ++ M := ⟨_, rfl⟩
  have hz2 : S2.size ≤ 1000000 := by rw [hS2, ByteArray.size_append]; omega
  have HS2 := Lib.hid hS2
  rw [← hS2]
  rw [← hS2] at HPM
  clear hS2
  obtain ⟨g, hg⟩ : ∃ n, n = parseN S2 := ⟨_, rfl⟩
  have HP := Lib.hid (parse_any S2 w4 hz2)
  rw [← hg] at HP HPM
  have HGG := Lib.hid hg
  clear hg
  refine HP.out.mono ?_
  rintro e w5 ⟨v5, rfl, -, hb5⟩
  have HB5 := Lib.hid (HB4.out.trans (hb5.mono (Nat.le_of_lt HK4.out.lt)))
  have hGl : G ≤ w5.heap.size := Nat.le_trans (Nat.le_of_lt HK4.out.lt) hb5.size
  clear hb5 HP HB4 HK4 hz2
  go_wp2_with (fail)
  refine (turn_any S A b w5 hbt).mono ?_
  rintro e w6 ⟨rfl, hb6⟩
  have HB6 := Lib.hid (HB5.out.trans (hb6.mono hGl))
  have hGl6 : G ≤ w6.heap.size := Nat.le_trans hGl hb6.size
  have hz3 := turn_size S A b
  obtain ⟨T, hT⟩ : ∃ X, X = turnS S A b := ⟨_, rfl⟩
  rw [← hT] at PT hz3 ⊢
  clear hb6 HB5 hT
  obtain ⟨h, hh⟩ : ∃ n, n = parseN T := ⟨_, rfl⟩
  have HP := Lib.hid (parse_any T w6 (by omega))
  rw [← hh] at HP PT
  have HHH := Lib.hid hh
  clear hh
  go_wp2_with (fail)
  refine HP.out.mono ?_
  rintro e w7 ⟨v7, rfl, -, hb7⟩
  have HB7 := Lib.hid (HB6.out.trans (hb7.mono hGl6))
  clear hb7 HP HB6
  have f1 : ¬ (f : Int) = 0 := by have := PC.out; omega
  have HF1 := Lib.hid f1
  have hMg : (M.toList = [] ∧ g = 0) ∨ ((M.toList == []) = false ∧ (!M.toList.isEmpty) = true ∧ ¬ (g : Int) = 0) := by
    rcases Nat.eq_zero_or_pos M.size with hz | hz
    · have e : M.toList = [] := by rw [ByteArray.toList_eq]; exact List.eq_nil_of_length_eq_zero (by rw [size_list]; exact hz)
      refine .inl ⟨e, ?_⟩
      rw [HGG.out, HS2.out, show S ++ M = S from bytes_ext (by rw [ByteArray.data_append, Array.toList_append]; rw [ByteArray.toList_eq] at e; rw [e, List.append_nil])]
      exact P0.out
    · have e : M.toList ≠ [] := fun e => by
        rw [ByteArray.toList_eq] at e
        have := size_list M
        rw [e] at this
        simp at this
        omega
      have := HPM.out hz
      refine .inr ⟨by rw [beq_eq_false_iff_ne]; exact e, ?_, by omega⟩
      cases c : M.toList with
      | nil => exact absurd c e
      | cons _ _ => rfl
  have hTh : (T = S ∧ h = 0) ∨ ((T.toList == S.toList) = false ∧ ¬ (h : Int) = 0) := by
    by_cases e : T = S
    · exact .inl ⟨e, by rw [HHH.out, e]; exact P0.out⟩
    · have := PT.out e
      refine .inr ⟨?_, by omega⟩
      rw [beq_eq_false_iff_ne, ByteArray.toList_eq, ByteArray.toList_eq]
      exact fun q => e (bytes_ext q)
  go_upto_region 13 with fail
  clear PT PC PM P0 HPM HHH HGG HS2
  rcases hMg with ⟨m1, rfl⟩ | ⟨m1, m2, m3⟩
  · rcases hTh with ⟨rfl, rfl⟩ | ⟨t1, t2⟩
    · go_wp2
      go_ret
      refine ⟨?_, by first | exact HB7.out | (rw [hG]; exact HB7.out)⟩
      exact ret_bool (by simp only [Bool.and_eq_true, bne_iff_ne, ne_eq]; first | exact f1 | exact ⟨f1, t2⟩ | exact ⟨f1, m3⟩ | exact ⟨⟨f1, m3⟩, t2⟩)
    · go_wp2
      go_ret
      refine ⟨?_, by first | exact HB7.out | (rw [hG]; exact HB7.out)⟩
      exact ret_bool (by simp only [Bool.and_eq_true, bne_iff_ne, ne_eq]; first | exact f1 | exact ⟨f1, t2⟩ | exact ⟨f1, m3⟩ | exact ⟨⟨f1, m3⟩, t2⟩)
  · rcases hTh with ⟨rfl, rfl⟩ | ⟨t1, t2⟩
    · go_wp2
      go_ret
      refine ⟨?_, by first | exact HB7.out | (rw [hG]; exact HB7.out)⟩
      exact ret_bool (by simp only [Bool.and_eq_true, bne_iff_ne, ne_eq]; first | exact f1 | exact ⟨f1, t2⟩ | exact ⟨f1, m3⟩ | exact ⟨⟨f1, m3⟩, t2⟩)
    · go_wp2
      go_ret
      refine ⟨?_, by first | exact HB7.out | (rw [hG]; exact HB7.out)⟩
      exact ret_bool (by simp only [Bool.and_eq_true, bne_iff_ne, ne_eq]; first | exact f1 | exact ⟨f1, t2⟩ | exact ⟨f1, m3⟩ | exact ⟨⟨f1, m3⟩, t2⟩)
end Go.Proofs.Ytmbafeemiclmeaa
