/- Images, as they are opened and read. -/
import Derived.Test.YtmbafeemiclmeaaTv7
namespace Go.Proofs.Ytmbafeemiclmeaa
open Go.RowKit
attribute [local irreducible] wpQuiet
set_option linter.unusedSimpArgs false
set_option linter.unusedVariables false

theorem ver_num (s : ByteArray) (h : 13 ≤ s.size) : Nums.numL ((s.extract 4 s.size).extract 0 1).data.toList = (verB s).toNat := by
  rw [ext_ext, ext_list]
  unfold verB
  have := size_list s
  obtain ⟨L, hL⟩ : ∃ L, L = s.data.toList := ⟨_, rfl⟩
  rw [← hL] at this ⊢
  match L, this with
  | x0 :: x1 :: x2 :: x3 :: x4 :: L, _ => simp [Nums.numL]
  | [], q => simp at q; omega
  | [_], q => simp at q; omega
  | [_, _], q => simp at q; omega
  | [_, _, _], q => simp at q; omega
  | [_, _, _, _], q => simp at q; omega
def opV (s : ByteArray) : UInt8 := if openN s = 0 then verB s else 0
def opS (s : ByteArray) : ByteArray := if openN s = 0 then insideB s else ⟨#[]⟩
theorem op_bad {s : ByteArray} {k : Nat} (h : openN s = k + 1) : (Value.tuple #[bv (opV s), .string (opS s), .int .i64 (openN s : Nat)]) = .tuple #[.int .u8 0, .string ⟨#[]⟩, .int .i64 ((k + 1 : Nat) : Int)] := by
  unfold opV opS
  rw [h]
  rfl
set_option maxRecDepth 100000 in
set_option maxHeartbeats 4000000 in
theorem open_any (s : ByteArray) (w : World) (hs : s.size ≤ 1000000) :
    Calls Try.prog 24 #[.string s] w fun e w' => e = .returned (.tuple #[bv (opV s), .string (opS s), .int .i64 (openN s : Nat)]) ∧ Below w.heap.size w w' := by
  by_cases c13 : s.size < 13
  · have e := Lib.hid (show openN s = 2 by unfold openN; rw [if_pos c13])
    go_enter Try.func24, Try.ntmps24
    go_wp2
    go_ret3
    exact ⟨congrArg Ending.returned (op_bad e.out).symm, Below.refl _ _⟩
  have s4 : (4 : Nat) ≤ s.size := by omega
  obtain ⟨M, hM⟩ : ∃ M, M = s.extract 0 4 := ⟨_, rfl⟩
  have HM := Lib.hid hM
  obtain ⟨r4, hr4⟩ : ∃ r, r = s.extract 4 s.size := ⟨_, rfl⟩
  have z4 : r4.size = s.size - 4 := by rw [hr4]; exact ext_size s 4 s.size (Nat.le_refl _)
  have HR4 := Lib.hid hr4
  have hv := ver_num s (by omega)
  rw [← hr4] at hv
  have e5 : r4.extract 1 r4.size = s.extract 5 s.size := by rw [hr4, ext_rest _ _ _ (by omega)]
  obtain ⟨r5, hr5⟩ : ∃ r, r = s.extract 5 s.size := ⟨_, rfl⟩
  have z5 : r5.size = s.size - 5 := by rw [hr5]; exact ext_size s 5 s.size (Nat.le_refl _)
  have HE5 := Lib.hid (e5.trans hr5.symm)
  have e9 : r5.extract 0 4 = s.extract 5 9 := by rw [hr5, ext_ext]
  have hn : Nums.numL (r5.extract 0 4).data.toList = lenB s := by rw [e9]; rfl
  have hn4 : lenB s < 4294967296 := numL4 s 5
  have e9b : r5.extract 4 r5.size = s.extract 9 s.size := by rw [hr5, ext_rest _ _ _ (by omega)]
  obtain ⟨r9, hr9⟩ : ∃ r, r = s.extract 9 s.size := ⟨_, rfl⟩
  have z9 : r9.size = s.size - 9 := by rw [hr9]; exact ext_size s 9 s.size (Nat.le_refl _)
  have HE9 := Lib.hid (e9b.trans hr9.symm)
  obtain ⟨vb, hvb⟩ : ∃ v, v = verB s := ⟨_, rfl⟩
  rw [← hvb] at hv
  have HVB := Lib.hid hvb
  have HV := Lib.hid hv
  obtain ⟨N, hN⟩ : ∃ N, N = lenB s := ⟨_, rfl⟩
  rw [← hN] at hn hn4
  have HN := Lib.hid hn
  have HNL := Lib.hid hN
  have v256 := vb.toNat_lt
  have q1 : (vb.toNat : Int) % 256 = (vb.toNat : Int) := by omega
  obtain ⟨B, hB⟩ : ∃ B, B = w.heap.size := ⟨_, rfl⟩
  have HBB := Lib.hid hB
  have mz : M.size = 4 := by rw [hM]; exact ext_size s 0 4 s4
  clear hM hr4 hv e5 hr5 e9 hn e9b hr9 hvb hN
  go_enter Try.func24, Try.ntmps24
  go_upto_region 4 with (go_at_call 34; refine (read_any s w).mono ?_; rintro e w1 ⟨rfl, hR1, hb1, hsz1⟩)
  rw [← hB] at hR1 hb1 hsz1 ⊢
  have HB1 := Lib.hid hb1
  clear hB hb1
  go_wp2_with (fail)
  refine (raw_good B 4 s _ hR1 (by omega)).mono ?_
  rintro e w2 ⟨rfl, hR2, hg2⟩
  rw [← HM.out]
  rw [← HR4.out] at hR2
  have HG2 := Lib.hid hg2
  have HR2 := Lib.hid hR2
  clear hR1 hg2 hR2
  have HB2 := Lib.hid (HB1.out.trans (grown_low HG2.out (fun k e => by cases e; exact Nat.le_refl _) (by omega)))
  by_cases cm : M.data.toList = [71, 82, 68, 82]
  case neg =>
    have e := Lib.hid (show openN s = 7 by unfold openN; rw [if_neg c13, ← HM.out, if_pos cm])
    have hm : (M.toList == [71, 82, 68, 82]) = false := by rw [ByteArray.toList_eq, beq_eq_false_iff_ne]; exact cm
    clear cm
    go_wp2
    go_ret3
    exact ⟨congrArg Ending.returned (op_bad e.out).symm, by rw [← HBB.out]; exact HB2.out⟩
  have hm : (M.toList == [71, 82, 68, 82]) = true := by rw [ByteArray.toList_eq, beq_iff_eq]; exact cm
  have HMM := Lib.hid cm
  clear cm
  go_wp2_with (fail)
  refine (num_good B 1 r4 _ HR2.out (by omega) (by omega) (by omega)).mono ?_
  rintro e w3 ⟨rfl, hR3, hg3⟩
  rw [HV.out]
  rw [HE5.out] at hR3
  have HR3 := Lib.hid hR3
  have hsz2 : B ≤ w2.heap.size := by have := HG2.out.size; omega
  have HB3 := Lib.hid (HB2.out.trans (grown_low hg3 (fun k e => by cases e; exact Nat.le_refl _) hsz2))
  have hsz3 : B ≤ w3.heap.size := by have := hg3.size; omega
  clear hR3 hg3 hm
  by_cases cg : goodV vb = true
  case neg =>
    have cg : goodV vb = false := by simpa using cg
    have e := Lib.hid (show openN s = 8 by unfold openN; rw [if_neg c13, if_neg (by rw [← HM.out]; exact fun h => h HMM.out), if_pos (by rw [← HVB.out]; exact cg)])
    have HG := Lib.hid (goodV_any vb)
    unfold bv at HG
    go_wp2_with (go_at_call 16; with_reducible refine (HG.out _).mono ?_; rintro e w4 ⟨rfl, rfl⟩; rw [cg])
    go_ret3
    exact ⟨congrArg Ending.returned (op_bad e.out).symm, by rw [← HBB.out]; exact HB3.out⟩
  have HG := Lib.hid (goodV_any vb)
  unfold bv at HG
  go_upto_region 9 with (go_at_call 16; with_reducible refine (HG.out _).mono ?_; rintro e w4 ⟨rfl, rfl⟩; rw [cg])
  have HGV := Lib.hid cg
  clear cg HG
  go_wp2_with (fail)
  refine (num_good B 4 r5 _ HR3.out (by omega) (by omega) (by omega)).mono ?_
  rintro e w4 ⟨rfl, hR4, hg4⟩
  rw [HN.out]
  rw [HE9.out] at hR4
  have HR4b := Lib.hid hR4
  have HB4 := Lib.hid (HB3.out.trans (grown_low hg4 (fun k e => by cases e; exact Nat.le_refl _) hsz3))
  clear hR4 hg4
  obtain ⟨m, hm⟩ : ∃ m, m = s.size - 13 := ⟨_, rfl⟩
  have qm : (r9.size : Int) - 4 = (m : Int) := by omega
  have qw := Lib.hid (show IntKind.u64.wrap (m : Int) = (m : Int) by rw [IntKind.wrap_u64]; omega)
  have qw2 : (m : Int) % 18446744073709551616 = (m : Int) := by omega
  have HZ9 := Lib.hid z9
  have HMZ := Lib.hid hm
  have mb : m ≤ 1000000 := by omega
  clear z9 z5 z4 hm
  go_upto_region 10 with (go_at_call 37; refine (left_any B r9 false _ HR4b.out).mono ?_; rintro e w5 ⟨rfl, rfl⟩)
  rcases Nat.lt_trichotomy m N with c | c | c
  · have e := Lib.hid (show openN s = 2 by unfold openN; rw [if_neg c13, if_neg (by rw [← HM.out]; exact fun h => h HMM.out), if_neg (by rw [← HVB.out, HGV.out]; decide), ← HMZ.out, ← HNL.out, if_pos c])
    clear qm
    go_wp2
    go_ret3
    exact ⟨congrArg Ending.returned (op_bad e.out).symm, by rw [← HBB.out]; exact HB4.out⟩
  case inr.inr =>
    have e := Lib.hid (show openN s = 3 by unfold openN; rw [if_neg c13, if_neg (by rw [← HM.out]; exact fun h => h HMM.out), if_neg (by rw [← HVB.out, HGV.out]; decide), ← HMZ.out, ← HNL.out, if_neg (by omega), if_pos c])
    have c2 : ¬ m < N := by omega
    clear qm
    go_wp2
    go_ret3
    exact ⟨congrArg Ending.returned (op_bad e.out).symm, by rw [← HBB.out]; exact HB4.out⟩
  have HC := Lib.hid c
  have c2 : ¬ m < N := by omega
  have c3 : ¬ N < m := by omega
  obtain ⟨E, hE⟩ : ∃ E, E = s.size - 4 := ⟨_, rfl⟩
  have qE : (s.size : Int) - 4 = (E : Int) := by omega
  have qE1 : (E : Int) ≤ (s.size : Int) := by omega
  have qE2 : E ≤ s.size := by omega
  have HEE := Lib.hid hE
  clear c qm hE
  go_upto_region 15 with fail
  have hsum := Lib.hid (fun W => sum_text (s.extract 0 E) W (by have := ext_size s 0 E qE2; omega))
  obtain ⟨S4, hS4⟩ : ∃ S : ByteArray, S = ⟨(Crc.le4 (Crc.sum (s.extract 0 E).data.toList)).toArray⟩ := ⟨_, rfl⟩
  have HS4 := Lib.hid hS4
  rw [← hS4] at hsum
  clear hS4
  refine wp_region_quiet (C := Below w4.heap.size w4) (by kernel_rfl) (by kernel_rfl) (Below.refl _ _).drew ?_
  iterate 6 (refine q_val (v := ?_) (by rfl) ?_ ?_; rotate_left; (· (intro W hC; go_simp; try with_reducible rfl)); (try simp only [Act.put, List.getElem_toArray, List.getElem_cons_succ, List.getElem_cons_zero, List.setIfInBounds_toArray, List.set_cons_zero, List.set_cons_succ]))
  (refine q_call (.string S4) 21 #[.string (s.extract 0 E)] (by rfl) (fun W hC => by go_simp) (fun W hC => calls_in (hsum.out W) fun w' hb => hC.trans (hb.mono hC.size)) ?_; (try simp only [Act.put, List.getElem_toArray, List.getElem_cons_succ, List.getElem_cons_zero, List.setIfInBounds_toArray, List.set_cons_zero, List.set_cons_succ]))
  (refine q_val (v := ?_) (by rfl) ?_ ?_; rotate_left; (· (intro W hC; go_simp; try with_reducible rfl)); (try simp only [Act.put, List.getElem_toArray, List.getElem_cons_succ, List.getElem_cons_zero, List.setIfInBounds_toArray, List.set_cons_zero, List.set_cons_succ]))
  refine wpQuiet_nil ?_
  intro w6 hC6
  have HB6 := Lib.hid (HB4.out.trans (hC6.mono (by rw [HBB.out]; exact HB4.out.size)))
  clear hC6 hsum
  have hq : ((s.extract E s.size).toList == S4.toList) = sumOk s := by
    rw [ByteArray.toList_eq, ByteArray.toList_eq, HS4.out, Bool.eq_iff_iff, beq_iff_eq]
    unfold sumOk
    rw [decide_eq_true_iff, ← HEE.out]
  obtain ⟨T2, hT2⟩ : ∃ T, T = s.extract E s.size := ⟨_, rfl⟩
  rw [← hT2] at hq ⊢
  clear hT2
  cases cs : sumOk s with
  | false =>
    rw [cs] at hq
    rw [hq]
    have e := Lib.hid (show openN s = 5 by unfold openN; rw [if_neg c13, if_neg (by rw [← HM.out]; exact fun h => h HMM.out), if_neg (by rw [← HVB.out, HGV.out]; decide), ← HMZ.out, ← HNL.out, if_neg (by omega), if_neg (by omega), if_pos cs])
    clear cs
    go_wp2
    go_ret3
    exact ⟨congrArg Ending.returned (op_bad e.out).symm, by rw [← HBB.out]; exact HB6.out⟩
  | true =>
    rw [cs] at hq
    rw [hq]
    have e := Lib.hid (show openN s = 0 by unfold openN; rw [if_neg c13, if_neg (by rw [← HM.out]; exact fun h => h HMM.out), if_neg (by rw [← HVB.out, HGV.out]; decide), ← HMZ.out, ← HNL.out, if_neg (by omega), if_neg (by omega), if_neg (by rw [cs]; decide)])
    clear cs
    have qE9 : (9 : Int) ≤ (E : Int) := by have := HEE.out; omega
    have qE10 : 9 ≤ E := by have := HEE.out; omega
    go_upto_region 17 with fail
    go_quiet (fail)
    go_wp2
    go_ret3
    refine ⟨?_, by rw [← HBB.out]; exact below_drewN HB6.out _⟩
    have e1 : opV s = vb := by unfold opV; rw [if_pos e.out, ← HVB.out]
    have e2 : opS s = s.extract 9 E := by unfold opS; rw [if_pos e.out]; unfold insideB; rw [← HEE.out]
    rw [e1, e2, e.out]
    rfl
theorem split_fuel (b : ByteArray) : ∀ (f g : Nat), b.size < f → b.size < g → splitB f b = splitB g b := by
  have key : ∀ n (b : ByteArray), b.size = n → ∀ (f g : Nat), b.size < f → b.size < g → splitB f b = splitB g b := by
    intro n
    induction n using Nat.strongRecOn with
    | _ n ih =>
      intro b hb f g hf hg
      obtain ⟨f, rfl⟩ : ∃ k, f = k + 1 := ⟨f - 1, by omega⟩
      obtain ⟨g, rfl⟩ : ∃ k, g = k + 1 := ⟨g - 1, by omega⟩
      unfold splitB
      by_cases c0 : b.size = 0
      · rw [if_pos c0, if_pos c0]
      · rw [if_neg c0, if_neg c0]
        by_cases c5 : b.size < 5
        · rw [if_pos c5, if_pos c5]
        · rw [if_neg c5, if_neg c5]
          have hz := ext_size b (5 + Nums.numL (b.extract 1 5).data.toList) b.size (Nat.le_refl _)
          rw [ih (b.size - (5 + Nums.numL (b.extract 1 5).data.toList)) (by omega) _ hz f g (by omega) (by omega)]
  exact fun f g hf hg => key b.size b rfl f g hf hg
theorem len_body (l : List Sec) : 5 * l.length ≤ (bodyL l).length := by
  induction l with
  | nil => simp [bodyL]
  | cons s l ih =>
    have : bodyL (s :: l) = s.bytes ++ bodyL l := rfl
    rw [this, List.length_append, bytes_len, List.length_cons]
    omega
def spN (s : ByteArray) : Nat := if openN s ≠ 0 then openN s else match splitB (s.size + 1) (insideB s) with | none => 4 | some _ => 0
set_option maxRecDepth 100000 in
set_option maxHeartbeats 4000000 in
theorem parse_any (s : ByteArray) (w : World) (hs : s.size ≤ 1000000) :
    Calls Try.prog 10 #[.string s] w fun e w' => ∃ sv, e = .returned (.tuple #[bv (parseV s), sv, .int .i64 (parseN s : Nat)]) ∧ Own w' w.heap.size 54 2 secC sv (parseL s) ∧ Below w.heap.size w w' := by
  have EG := Lib.hid (show ∀ (args : Array Value) (w : World), (callFunc 18 args).run Try.prog w = .ok (.enter 18 args) w from fun args w => by kernel_rfl)
  have HO := Lib.hid (open_any s w hs)
  obtain ⟨vb, hvb⟩ : ∃ v, v = opV s := ⟨_, rfl⟩
  obtain ⟨D, hD⟩ : ∃ v, v = opS s := ⟨_, rfl⟩
  obtain ⟨N, hN⟩ : ∃ v, v = openN s := ⟨_, rfl⟩
  have hDs : D.size ≤ 1000000 := by
    rw [hD]
    unfold opS insideB
    split
    · rw [← size_list, ext_list, List.length_take, List.length_drop, size_list]
      omega
    · exact Nat.zero_le _
  rw [← hvb, ← hD, ← hN] at HO
  unfold bv at HO
  have HV := Lib.hid hvb
  have HD := Lib.hid hD
  have HN := Lib.hid hN
  clear hvb hD hN
  go_enter Try.func10, Try.ntmps10
  by_cases c0 : N = 0
  case neg =>
    have e := Lib.hid (show parseN s = N by unfold parseN; rw [← HN.out, if_pos c0])
    have e1 := Lib.hid (show parseV s = 0 by unfold parseV; rw [e.out, if_neg c0])
    have e2 := Lib.hid (show parseL s = [] by unfold parseL; rw [e.out, if_neg c0])
    have c1 : ¬ (N : Int) = 0 := by omega
    go_wp2_with (go_at_call 24; with_reducible refine HO.out.mono ?_; rintro e w1 ⟨rfl, hb1⟩)
    go_ret3
    refine ⟨.slice none 0 0, ?_, ?_, hb1⟩
    · rw [e.out, e1.out]; rfl
    · rw [e2.out]; exact Own.nil _ _ _ _ _
  subst c0
  go_upto_region 4 with (go_at_call 24; with_reducible refine HO.out.mono ?_; rintro e w1 ⟨rfl, hb1⟩)
  have HB1 := Lib.hid hb1
  have HSP := Lib.hid (split_any D w1 hDs)
  have h5 := HD.out
  have hop : opS s = insideB s := by unfold opS; rw [if_pos HN.out.symm]
  have hov : opV s = verB s := by unfold opV; rw [if_pos HN.out.symm]
  have hsp : splitB (s.size + 1) (insideB s) = splitB (D.size + 1) D := by
    rw [← hop, ← HD.out]
    exact split_fuel _ _ _ (by rw [h5, hop]; unfold insideB; rw [← size_list, ext_list, List.length_take, List.length_drop, size_list]; omega) (by omega)
  have HVV := Lib.hid (HV.out.trans hov)
  have HF := Lib.hid hsp
  clear hb1 h5 hop hov hsp
  go_wp2_with (fail)
  refine HSP.out.mono ?_
  rintro e w2 ⟨sv, n, rfl, hsp, hb2⟩
  have HB2 := Lib.hid (HB1.out.trans (hb2.mono HB1.out.size))
  have hsz := HB1.out.size
  clear hb2 HSP
  cases cs : splitB (D.size + 1) D with
  | none =>
    rw [cs] at hsp
    have hn : n = 4 := hsp
    subst hn
    have e := Lib.hid (show parseN s = 4 by unfold parseN; rw [← HN.out, if_neg (by decide), HF.out, cs])
    have e1 := Lib.hid (show parseV s = 0 by unfold parseV; rw [e.out]; rfl)
    have e2 := Lib.hid (show parseL s = [] by unfold parseL; rw [e.out]; rfl)
    clear hsp cs
    go_wp2_with (fail)
    go_ret3
    refine ⟨.slice none 0 0, ?_, ?_, HB2.out⟩
    · rw [e.out, e1.out]; rfl
    · rw [e2.out]; exact Own.nil _ _ _ _ _
  | some l =>
    rw [cs] at hsp
    obtain ⟨hn, hown⟩ : n = 0 ∧ Own w2 w1.heap.size 54 2 secC sv l := hsp
    subst hn
    have HOW := Lib.hid hown
    have hll : l.length ≤ 1000000 := by
      have q := body_split _ _ _ cs
      have q2 := congrArg List.length q.1
      rw [size_list] at q2
      have q3 := len_body l
      omega
    have HC := Lib.hid cs
    clear hown cs
    cases cr : risesL l with
    | false =>
      have e := Lib.hid (show parseN s = 9 by unfold parseN; rw [← HN.out, if_neg (by decide), HF.out, HC.out]; simp [cr])
      have e1 := Lib.hid (show parseV s = 0 by unfold parseV; rw [e.out]; rfl)
      have e2 := Lib.hid (show parseL s = [] by unfold parseL; rw [e.out]; rfl)
      go_wp2_with (go_at_call 17; with_reducible refine (rises_any HOW.out.sl hll EG.out).mono ?_; rintro e w3 ⟨rfl, hb3⟩; rw [cr])
      go_ret3
      refine ⟨.slice none 0 0, ?_, ?_, HB2.out.trans (hb3.mono HB2.out.size)⟩
      · rw [e.out, e1.out]; rfl
      · rw [e2.out]; exact Own.nil _ _ _ _ _
    | true =>
      have e := Lib.hid (show parseN s = 0 by unfold parseN; rw [← HN.out, if_neg (by decide), HF.out, HC.out]; simp [cr])
      have e1 := Lib.hid (show parseV s = vb by unfold parseV; rw [if_pos e.out, HVV.out])
      have e2 := Lib.hid (show parseL s = l by unfold parseL; rw [if_pos e.out, HF.out, HC.out]; rfl)
      go_wp2_with (go_at_call 17; with_reducible refine (rises_any HOW.out.sl hll EG.out).mono ?_; rintro e w3 ⟨rfl, hb3⟩; rw [cr])
      go_ret3
      refine ⟨sv, ?_, ?_, HB2.out.trans (hb3.mono HB2.out.size)⟩
      · rw [e.out, e1.out]; rfl
      · rw [e2.out]; exact (HOW.out.next hb3).mono hsz
end Go.Proofs.Ytmbafeemiclmeaa
