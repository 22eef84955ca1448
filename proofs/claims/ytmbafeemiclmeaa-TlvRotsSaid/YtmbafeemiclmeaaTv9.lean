/- Images, as the document reads them. -/
import Derived.Test.YtmbafeemiclmeaaTv8
namespace Go.Proofs.Ytmbafeemiclmeaa
open Go.RowKit
attribute [local irreducible] wpQuiet
set_option linter.unusedSimpArgs false
set_option linter.unusedVariables false

theorem bad_parse {s : ByteArray} {k : Nat} (h : openN s = k + 1) : Ending.returned (.tuple #[.int .u8 0, .slice none 0 0, .int .i64 ((k + 1 : Nat) : Int)]) = .returned (.tuple #[bv (parseV s), .slice none 0 0, .int .i64 (parseN s : Nat)]) ∧ ∀ (W : World) (b : Nat), Own W b 55 2 secC (.slice none 0 0) (parseL s) := by
  have p : parseN s = k + 1 := by unfold parseN; rw [h, if_pos (by omega)]
  have e1 : parseV s = 0 := by unfold parseV; rw [p]; rfl
  have e2 : parseL s = [] := by unfold parseL; rw [p]; rfl
  rw [p, e1, e2]
  exact ⟨rfl, fun W b => Own.nil _ _ _ _ _⟩
theorem at_list (s : ByteArray) (i : Nat) (h : i < s.size) : s[i] = s.data.toList.getD i 0 := by
  show s.data[i] = _
  rw [List.getD_eq_getElem?_getD, Array.getElem?_toList, Array.getElem?_eq_getElem h]
  rfl
theorem good_parse {s : ByteArray} {l : List Sec} (h : openN s = 0) (h2 : splitB (s.size + 1) (insideB s) = some l) (h3 : risesL l = true) : parseN s = 0 ∧ parseV s = verB s ∧ parseL s = l := by
  have p : parseN s = 0 := by unfold parseN; rw [h, if_neg (by decide), h2]; simp [h3]
  exact ⟨p, by unfold parseV; rw [if_pos p], by unfold parseL; rw [if_pos p, h2]; rfl⟩
theorem order_parse {s : ByteArray} {l : List Sec} (h : openN s = 0) (h2 : splitB (s.size + 1) (insideB s) = some l) (h3 : risesL l = false) : Ending.returned (.tuple #[.int .u8 0, .slice none 0 0, .int .i64 9]) = .returned (.tuple #[bv (parseV s), .slice none 0 0, .int .i64 (parseN s : Nat)]) ∧ ∀ (W : World) (b : Nat), Own W b 55 2 secC (.slice none 0 0) (parseL s) := by
  have p : parseN s = 9 := by unfold parseN; rw [h, if_neg (by decide), h2]; simp [h3]
  have e1 : parseV s = 0 := by unfold parseV; rw [p]; rfl
  have e2 : parseL s = [] := by unfold parseL; rw [p]; rfl
  rw [p, e1, e2]
  exact ⟨rfl, fun W b => Own.nil _ _ _ _ _⟩
def strSize : Value → Nat | .string r => r.size | _ => 0
theorem form_parse {s : ByteArray} (h : openN s = 0) (h2 : splitB (s.size + 1) (insideB s) = none) : Ending.returned (.tuple #[.int .u8 0, .slice none 0 0, .int .i64 4]) = .returned (.tuple #[bv (parseV s), .slice none 0 0, .int .i64 (parseN s : Nat)]) ∧ ∀ (W : World) (b : Nat), Own W b 55 2 secC (.slice none 0 0) (parseL s) := by
  have p : parseN s = 4 := by unfold parseN; rw [h, if_neg (by decide), h2]
  have e1 : parseV s = 0 := by unfold parseV; rw [p]; rfl
  have e2 : parseL s = [] := by unfold parseL; rw [p]; rfl
  rw [p, e1, e2]
  exact ⟨rfl, fun W b => Own.nil _ _ _ _ _⟩
set_option maxRecDepth 100000 in
set_option maxHeartbeats 4000000 in
theorem rparse_any (s : ByteArray) (w : World) (hs : s.size ≤ 1000000) :
    Calls Try.prog 14 #[.string s] w fun e w' => ∃ sv, e = .returned (.tuple #[bv (parseV s), sv, .int .i64 (parseN s : Nat)]) ∧ Own w' w.heap.size 55 2 secC sv (parseL s) ∧ Below w.heap.size w w' := by
  by_cases c13 : s.size < 13
  · have o := Lib.hid (show openN s = 2 by unfold openN; rw [if_pos c13])
    have p := Lib.hid (bad_parse o.out)
    go_enter Try.func14, Try.ntmps14
    go_wp2
    go_ret3
    exact ⟨.slice none 0 0, p.out.1, p.out.2 _ _, Below.refl _ _⟩
  have s4 : (4 : Nat) ≤ s.size := by omega
  obtain ⟨M, hM⟩ : ∃ M, M = s.extract 0 4 := ⟨_, rfl⟩
  have HM := Lib.hid hM
  obtain ⟨B, hB⟩ : ∃ B, B = w.heap.size := ⟨_, rfl⟩
  have HBB := Lib.hid hB
  rw [← hB]
  clear hM hB
  go_enter Try.func14, Try.ntmps14
  go_upto_region 3 with fail
  by_cases cm : M.data.toList = [71, 82, 68, 82]
  case neg =>
    have o := Lib.hid (show openN s = 7 by unfold openN; rw [if_neg c13, ← HM.out, if_pos cm])
    have p := Lib.hid (bad_parse o.out)
    have hm : ((s.extract 0 4).toList == [71, 82, 68, 82]) = false := by rw [ByteArray.toList_eq, ← HM.out, beq_eq_false_iff_ne]; exact cm
    clear cm
    go_wp2
    go_ret3
    exact ⟨.slice none 0 0, p.out.1, p.out.2 _ _, Below.refl _ _⟩
  have hm : ((s.extract 0 4).toList == [71, 82, 68, 82]) = true := by rw [ByteArray.toList_eq, ← HM.out, beq_iff_eq]; exact cm
  have HMM := Lib.hid cm
  clear cm
  go_upto_region 5 with fail
  have h4 : 4 < s.size := by omega
  obtain ⟨vb, hvb⟩ : ∃ v, v = verB s := ⟨_, rfl⟩
  have hv4 : s[4]'h4 = vb := by rw [hvb]; exact at_list s 4 h4
  have HVB := Lib.hid hvb
  clear hvb
  clear hm
  go_upto_region 6 with fail
  clear hv4
  have v256 := vb.toNat_lt
  by_cases cg : goodV vb = true
  case neg =>
    have cg : goodV vb = false := by simpa using cg
    have cg1 : ¬ (1 ≤ vb.toNat ∧ vb.toNat ≤ 3) := fun h => by rw [(goodV_iff vb).2 h] at cg; cases cg
    have o := Lib.hid (show openN s = 8 by unfold openN; rw [if_neg c13, if_neg (by rw [← HM.out]; exact fun h => h HMM.out), if_pos (by rw [← HVB.out]; exact cg)])
    have p := Lib.hid (bad_parse o.out)
    clear HVB cg
    generalize vb.toNat = vn at *
    by_cases c1 : vn < 1
    · clear cg1
      go_wp2
      go_ret3
      exact ⟨.slice none 0 0, p.out.1, p.out.2 _ _, Below.refl _ _⟩
    · have c2 : 3 < vn := by omega
      clear cg1
      go_wp2
      go_ret3
      exact ⟨.slice none 0 0, p.out.1, p.out.2 _ _, Below.refl _ _⟩
  have cg1 := (goodV_iff vb).1 cg
  have HGV := Lib.hid cg
  obtain ⟨vn, hvn⟩ : ∃ n, n = vb.toNat := ⟨_, rfl⟩
  rw [← hvn] at cg1 ⊢
  have HVN := Lib.hid hvn
  have cg2 : 1 ≤ vn := cg1.1
  have cg3 : vn ≤ 3 := cg1.2
  clear cg hvn cg1 v256
  have s9 : 9 ≤ s.size := by omega
  obtain ⟨N, hN⟩ : ∃ N, N = lenB s := ⟨_, rfl⟩
  have hn4 : N < 4294967296 := by rw [hN]; exact numL4 s 5
  have HNL := Lib.hid hN
  obtain ⟨X, hX⟩ : ∃ X, X = s.extract 5 9 := ⟨_, rfl⟩
  have hXs : X.size ≤ 8 := by rw [hX, ext_size _ _ _ (by omega)]; decide
  have HX := Lib.hid hX
  have HNX := Lib.hid (show Nums.numL X.data.toList = N by rw [hX, hN]; rfl)
  clear hN hX
  go_upto_region 8 with fail
  go_wp2_with (fail)
  rw [← HX.out]
  refine (number_any X _ hXs).mono ?_
  rintro e w1 ⟨rfl, rfl⟩
  rw [HNX.out]
  obtain ⟨m, hm⟩ : ∃ m, m = s.size - 13 := ⟨_, rfl⟩
  have qm : (s.size : Int) - 13 = (m : Int) := by omega
  have mb : m ≤ 1000000 := by omega
  have qw2 : (m : Int) % 18446744073709551616 = (m : Int) := by omega
  have HMZ := Lib.hid hm
  clear hm
  go_upto_region 9 with fail
  rcases Nat.lt_trichotomy m N with c | c | c
  · have o := Lib.hid (show openN s = 2 by unfold openN; rw [if_neg c13, if_neg (by rw [← HM.out]; exact fun h => h HMM.out), if_neg (by rw [← HVB.out, HGV.out]; decide), ← HMZ.out, ← HNL.out, if_pos c])
    have p := Lib.hid (bad_parse o.out)
    go_wp2
    go_ret3
    exact ⟨.slice none 0 0, p.out.1, p.out.2 _ _, Below.refl _ _⟩
  case inr.inr =>
    have o := Lib.hid (show openN s = 3 by unfold openN; rw [if_neg c13, if_neg (by rw [← HM.out]; exact fun h => h HMM.out), if_neg (by rw [← HVB.out, HGV.out]; decide), ← HMZ.out, ← HNL.out, if_neg (by omega), if_pos c])
    have p := Lib.hid (bad_parse o.out)
    have c2 : ¬ m < N := by omega
    go_wp2
    go_ret3
    exact ⟨.slice none 0 0, p.out.1, p.out.2 _ _, Below.refl _ _⟩
  have HC := Lib.hid c
  have c2 : ¬ m < N := by omega
  have c3 : ¬ N < m := by omega
  clear c
  go_upto_region 13 with fail
  obtain ⟨E, hE⟩ : ∃ E, E = s.size - 4 := ⟨_, rfl⟩
  have qE : (s.size : Int) - 4 = (E : Int) := by omega
  have qE1 : (E : Int) ≤ (s.size : Int) := by omega
  have qE2 : E ≤ s.size := by omega
  have qE3 : 9 ≤ E := by omega
  have qE4 : (9 : Int) ≤ (E : Int) := by omega
  have qE5 : IntKind.i64.wrap (E : Int) = (E : Int) := by rw [IntKind.wrap_i64]; omega
  have HEE := Lib.hid hE
  have hsum := Lib.hid (fun W => rsum_text (s.extract 0 E) W (by have := ext_size s 0 E qE2; omega))
  obtain ⟨S4, hS4⟩ : ∃ S : ByteArray, S = ⟨(Crc.le4 (Crc.sum (s.extract 0 E).data.toList)).toArray⟩ := ⟨_, rfl⟩
  have HS4 := Lib.hid hS4
  rw [← hS4] at hsum
  clear hS4 hE qm
  refine wp_region_quiet (C := Below w.heap.size w) (by kernel_rfl) (by kernel_rfl) (Below.refl _ _).drew ?_
  iterate 10 (refine q_val (v := ?_) (by rfl) ?_ ?_; rotate_left; (· (intro W hC; go_simp; try with_reducible rfl)); (try simp only [Act.put, List.getElem_toArray, List.getElem_cons_succ, List.getElem_cons_zero, List.setIfInBounds_toArray, List.set_cons_zero, List.set_cons_succ]))
  (refine q_call (.string S4) 23 #[.string (s.extract 0 E)] (by rfl) (fun W hC => by go_simp) (fun W hC => calls_in (hsum.out W) fun w' hb => hC.trans (hb.mono hC.size)) ?_; (try simp only [Act.put, List.getElem_toArray, List.getElem_cons_succ, List.getElem_cons_zero, List.setIfInBounds_toArray, List.set_cons_zero, List.set_cons_succ]))
  (refine q_val (v := ?_) (by rfl) ?_ ?_; rotate_left; (· (intro W hC; go_simp; try with_reducible rfl)); (try simp only [Act.put, List.getElem_toArray, List.getElem_cons_succ, List.getElem_cons_zero, List.setIfInBounds_toArray, List.set_cons_zero, List.set_cons_succ]))
  refine wpQuiet_nil ?_
  intro w6 hC6
  have HB6 := Lib.hid hC6
  clear hC6 hsum
  have hq : ((s.extract E s.size).toList == S4.toList) = sumOk s := by
    rw [ByteArray.toList_eq, ByteArray.toList_eq, HS4.out, Bool.eq_iff_iff, beq_iff_eq]
    unfold sumOk
    rw [decide_eq_true_iff, ← HEE.out]
  obtain ⟨T2, hT2⟩ : ∃ T, T = s.extract E s.size := ⟨_, rfl⟩
  rw [← hT2] at hq ⊢
  clear hT2
  cases cs : sumOk s with
  | false =>
    rw [cs] at hq
    rw [hq]
    have o := Lib.hid (show openN s = 5 by unfold openN; rw [if_neg c13, if_neg (by rw [← HM.out]; exact fun h => h HMM.out), if_neg (by rw [← HVB.out, HGV.out]; decide), ← HMZ.out, ← HNL.out, if_neg (by omega), if_neg (by omega), if_pos cs])
    have p := Lib.hid (bad_parse o.out)
    clear cs
    go_wp2
    go_ret3
    exact ⟨.slice none 0 0, p.out.1, p.out.2 _ _, by rw [HBB.out]; exact HB6.out⟩
  | true =>
    rw [cs] at hq
    rw [hq]
    have o := Lib.hid (show openN s = 0 by unfold openN; rw [if_neg c13, if_neg (by rw [← HM.out]; exact fun h => h HMM.out), if_neg (by rw [← HVB.out, HGV.out]; decide), ← HMZ.out, ← HNL.out, if_neg (by omega), if_neg (by omega), if_neg (by rw [cs]; decide)])
    clear cs hq
    obtain ⟨body0, hb0⟩ : ∃ b, b = s.extract 9 E := ⟨_, rfl⟩
    have HI := Lib.hid (show body0 = insideB s by rw [hb0]; unfold insideB; rw [← HEE.out])
    have hbs : body0.size ≤ 1000000 := by rw [hb0, ext_size _ _ _ qE2]; omega
    go_upto_region 17 with fail
    rw [← hb0]
    clear hb0
    go_loopw [7, 8] (fun v b wr => ∃ (acc : List Sec) (body : ByteArray) (f : Nat), b = .string body ∧ Own wr B 55 2 secC v acc ∧ Below B w wr ∧ splitB (s.size + 1) (insideB s) = (splitB f body).map (acc ++ ·) ∧ body.size < f ∧ acc.length + body.size ≤ 1000000) (fun _ b _ => strSize b)
    case atStart =>
      refine ⟨[], body0, s.size + 1, rfl, Own.nil _ _ _ _ _, by rw [HBB.out]; exact HB6.out, by rw [HI.out]; simp, ?_, by simp; exact hbs⟩
      rw [HI.out]
      unfold insideB
      rw [← size_list, ext_list, List.length_take, List.length_drop, size_list]
      omega
    case round =>
      obtain ⟨acc, body, f, rfl, hown, hB, hsp, hf, hal⟩ := hrel
      have HO := Lib.hid hown
      have HB := Lib.hid hB
      have HSP := Lib.hid hsp
      clear hown hB hsp HB6
      obtain ⟨f, rfl⟩ : ∃ g, f = g + 1 := ⟨f - 1, by omega⟩
      by_cases c0 : body.size = 0
      · have e : splitB (f + 1) body = some [] := by simp [splitB, c0]
        have hsp := HSP.out
        rw [e] at hsp
        simp only [Option.map_some, List.append_nil] at hsp
        have HSP2 := Lib.hid hsp
        clear hsp e HSP
        obtain ⟨w7, hw7⟩ : ∃ x, x = wr := ⟨_, rfl⟩
        subst hw7
        rcases HO.out.cases with ⟨hnil, rfl⟩ | ⟨g, cap, hsl, hg1, hg2, hg3, hg4⟩
        · subst hnil
          have p := Lib.hid (good_parse o.out HSP2.out rfl)
          have hvv := Lib.hid (show bv (parseV s) = .int .u8 (vn : Int) by rw [p.out.2.1, ← HVB.out, HVN.out]; rfl)
          go_upto_region 26 with fail
          go_loopw [10] (fun i wr => i = .int .i64 1 ∧ w7 = wr) (fun _ _ => 0)
          case atStart => exact ⟨rfl, rfl⟩
          case round =>
            obtain ⟨rfl, rfl⟩ := hrel
            go_wp2
            go_ret3
            refine ⟨.slice none 0 0, ?_, ?_, HB.out⟩
            · rw [hvv.out, p.out.1]; rfl
            · rw [p.out.2.2]; exact Own.nil _ _ _ _ _
        · obtain ⟨m, hm2⟩ : ∃ m, m = acc.length := ⟨_, rfl⟩
          rw [← hm2] at hsl hg3
          have hmb : m ≤ 1000000 := by omega
          have HM2 := Lib.hid hm2
          clear hm2
          subst hsl
          unfold maxLen at hg4
          have hg4 : cap ≤ 9223372036854775807 := by omega
          have HSL := Lib.hid HO.out.sl
          have HGL := Lib.hid hg2
          go_upto_region 26 with fail
          go_loopw [10] (fun i wr => ∃ j : Nat, i = .int .i64 (j : Int) ∧ 1 ≤ j ∧ j ≤ m + 1 ∧ Below w7.heap.size w7 wr ∧ (∀ i a b, i + 1 ≤ j - 1 → acc[i]? = some a → acc[i + 1]? = some b → a.k.toNat < b.k.toNat)) (fun i _ => m + 1 - (intOf i).toNat)
          case atStart => exact ⟨1, rfl, by omega, by omega, Below.refl _ _, fun i a b h => by omega⟩
          case round =>
            obtain ⟨j, rfl, hj, hjn, hB, hr⟩ := hrel
            have HR := Lib.hid hr
            have HB2 := Lib.hid hB
            clear hr hB
            by_cases c : j < m
            · obtain ⟨k, hk⟩ : ∃ k, k = j - 1 := ⟨_, rfl⟩
              obtain ⟨x, hx⟩ : ∃ x, acc[k]? = some x := ⟨_, List.getElem?_eq_getElem (by rw [← HM2.out]; omega)⟩
              obtain ⟨y, hy⟩ : ∃ y, acc[j]? = some y := ⟨_, List.getElem?_eq_getElem (by rw [← HM2.out]; omega)⟩
              have HX := Lib.hid hx
              have HY := Lib.hid hy
              have c2 : (j : Int) - 1 = (k : Int) := by omega
              have c4 : k < m := by omega
              have hk2 : j = k + 1 := by omega
              have HK := Lib.hid hk2
              clear hx hy hk hk2
              have d0 := ((HSL.out.below HB2.out).cell HX.out).1
              have d1 := ((HSL.out.below HB2.out).cell HY.out).1
              unfold bv at d0 d1
              obtain ⟨a, ha⟩ : ∃ a, a = x.k.toNat := ⟨_, rfl⟩
              obtain ⟨b, hb⟩ : ∃ b, b = y.k.toNat := ⟨_, rfl⟩
              rw [← ha] at d0
              rw [← hb] at d1
              have HA := Lib.hid ha
              have HBy := Lib.hid hb
              clear ha hb
              go_upto_region 28 with fail
              go_quiet (fail)
              by_cases cab : a < b
              · have HAB := Lib.hid cab
                have cab2 : ¬ b ≤ a := by omega
                clear d0 d1 cab
                go_wp2
                go_roundw
                case rel =>
                  refine ⟨j + 1, by go_num, by omega, by omega, below_drewN HB2.out _, fun i a b h ha hb => ?_⟩
                  by_cases q : i + 1 ≤ j - 1
                  · exact HR.out i a b q ha hb
                  · have e : i = k := by have := HK.out; omega
                    subst e
                    rw [HX.out] at ha
                    rw [← HK.out, HY.out] at hb
                    cases ha
                    cases hb
                    rw [← HA.out, ← HBy.out]
                    exact HAB.out
                case measure => simp [intOf]; omega
              · have HAB := Lib.hid (rises_not acc k x y HX.out (by rw [← HK.out]; exact HY.out) (by rw [← HA.out, ← HBy.out]; exact cab))
                have cab2 : b ≤ a := by omega
                clear d0 d1 cab
                have p := Lib.hid (order_parse o.out HSP2.out HAB.out)
                go_wp2
                go_ret3
                exact ⟨.slice none 0 0, p.out.1, p.out.2 _ _, below_drewN (HB.out.trans (HB2.out.mono (by rw [HBB.out]; exact HB.out.size))) _⟩
            · have HRI := Lib.hid (rises_take acc (j - 1) HR.out (by rw [← HM2.out]; omega))
              have p := Lib.hid (good_parse o.out HSP2.out HRI.out)
              have hvv := Lib.hid (show bv (parseV s) = .int .u8 (vn : Int) by rw [p.out.2.1, ← HVB.out, HVN.out]; rfl)
              clear HR
              go_wp2
              go_ret3
              refine ⟨.slice (some ⟨g, 0, none⟩) m cap, ?_, ?_, HB.out.trans (HB2.out.mono (by rw [HBB.out]; exact HB.out.size))⟩
              · rw [hvv.out, p.out.1]; rfl
              · rw [p.out.2.2]; exact HO.out.next HB2.out
      · have c1 : (0 : Int) < (body.size : Int) := by omega
        by_cases c5 : body.size < 5
        · have e : splitB (f + 1) body = none := by unfold splitB; rw [if_neg c0, if_pos c5]
          have hsp := HSP.out
          rw [e] at hsp
          have p := Lib.hid (form_parse o.out hsp)
          clear hsp e HSP
          go_wp2
          go_ret3
          exact ⟨.slice none 0 0, p.out.1, p.out.2 _ _, HB.out⟩
        · obtain ⟨Y, hY⟩ : ∃ Y, Y = body.extract 1 5 := ⟨_, rfl⟩
          have hYs : Y.size ≤ 8 := by rw [hY, ext_size _ _ _ (by omega)]; decide
          have HY := Lib.hid hY
          obtain ⟨N5, hN5⟩ : ∃ N, N = Nums.numL Y.data.toList := ⟨_, rfl⟩
          have hn5 : N5 < 4294967296 := by rw [hN5, hY]; exact numL4 body 1
          have HN5 := Lib.hid hN5
          clear hY hN5
          have b5 : 5 ≤ body.size := by omega
          have b5i : (5 : Int) ≤ (body.size : Int) := by omega
          obtain ⟨m5, hm5⟩ : ∃ m, m = body.size - 5 := ⟨_, rfl⟩
          have qm5 : (body.size : Int) - 5 = (m5 : Int) := by omega
          have mb5 : m5 ≤ 1000000 := by omega
          have qw5 : (m5 : Int) % 18446744073709551616 = (m5 : Int) := by omega
          have HM5 := Lib.hid hm5
          clear hm5
          go_upto_region 20 with fail
          go_wp2_with (fail)
          rw [← HY.out]
          refine (number_any Y _ hYs).mono ?_
          rintro e w7 ⟨rfl, rfl⟩
          rw [← HN5.out]
          go_upto_region 21 with fail
          by_cases cn : m5 < N5
          · have e : splitB (f + 1) body = none := by unfold splitB; rw [if_neg c0, if_neg c5, ← HY.out, ← HN5.out, ← HM5.out, if_pos cn]
            have hsp := HSP.out
            rw [e] at hsp
            have p := Lib.hid (form_parse o.out hsp)
            clear hsp e HSP
            go_wp2
            go_ret3
            exact ⟨.slice none 0 0, p.out.1, p.out.2 _ _, HB.out⟩
          · go_upto_region 23 with fail
            have HCN := Lib.hid cn
            obtain ⟨D, hD⟩ : ∃ D, D = body.extract 5 (5 + N5) := ⟨_, rfl⟩
            obtain ⟨kb, hkb⟩ : ∃ k, k = body.data.toList.headD 0 := ⟨_, rfl⟩
            have h00 : 0 < body.size := by omega
            have hkb0 := Lib.hid (show body[0]'h00 = kb by rw [hkb, at_list]; cases body.data.toList <;> rfl)
            have HE := Lib.hid (show splitB (f + 1) body = match splitB f (body.extract (5 + N5) body.size) with | none => none | some l => some (⟨kb, D⟩ :: l) by
              conv => lhs; unfold splitB
              rw [if_neg c0, if_neg c5, ← HY.out, ← HN5.out, ← HM5.out, if_neg cn, ← hD, ← hkb]
              cases splitB f (body.extract (5 + N5) body.size) <;> rfl)
            have HD := Lib.hid hD
            have hM6 := Lib.hid (show 5 + N5 ≤ body.size by have := HM5.out; omega)
            have hM6i := Lib.hid (show (5 : Int) + (N5 : Int) ≤ (body.size : Int) by have := HM5.out; omega)
            have hM9 := Lib.hid (show IntKind.u64.wrap (5 + (N5 : Int)) = 5 + (N5 : Int) by rw [IntKind.wrap_u64]; omega)
            have hMT := Lib.hid (show (5 + (N5 : Int)).toNat = 5 + N5 by omega)
            have hM0 := Lib.hid (show (0 : Int) ≤ 5 + (N5 : Int) by omega)
            have hM55 := Lib.hid (show (5 : Int) ≤ 5 + (N5 : Int) by omega)
            clear hD hkb cn
            refine rg (fun s => [u7, .string body, .int .u8 (kb.toNat : Int), .string body, .int .u64 (N5 : Int), .int .u64 (5 + (N5 : Int)), .string D, .agg #[(.int .u8 (kb.toNat : Int)), .string D], .slice (some ⟨s.1, 0, none⟩) 1 1, s.2, s.2]) (fun s L W => Below B w W ∧ (if L 9 = true then Own W B 55 2 secC s.2 (acc ++ [⟨kb, D⟩]) else Own W B 55 2 secC u7 acc) ∧ (L 8 = true → L 9 = false → ∃ W0, W = W0.alloc (.cells #[(.int .u8 (kb.toNat : Int)), .string D] 55) ∧ s.1 = W0.heap.size ∧ Own W0 B 55 2 secC u7 acc ∧ Below B w W0)) (((0, undef) : Nat × Value)) [0, 1, 3, 4, 10] [] [] [2, 5, 6, 7, 8, 9] (by kernel_rfl) (fun _ => rfl) (by kernel_rfl) (fun _ => by kernel_rfl) (fun _ _ => by kernel_rfl) (fun _ => by kernel_rfl) (fun _ => by kernel_rfl) (fun _ => by kernel_rfl) (fun _ => by kernel_rfl) (⟨HB.out.drew, by rw [if_neg (by decide)]; exact HO.out.drew, fun h => Bool.noConfusion h⟩) (fun s L W hC => trivial) (fun i hi s L W hC => ⟨hC.1, by rcases hi with hi | hi | hi <;> simp at hi; rcases hi with rfl | rfl | rfl | rfl | rfl <;> simpa [upd] using hC.2⟩) ?_ ?_
            · intro i hi s L w1 hC hL ha hdc
              simp only [List.mem_cons, List.not_mem_nil, or_false] at hi
              rcases hi with rfl | rfl | rfl | rfl | rfl | rfl
              · refine ⟨by kernel_rfl, fun o ho => ?_⟩
                cases ho
                refine stepW_see [(73, .string body)] (by kernel_rfl) (fun _ => rfl) (fun _ => rfl) ?_
                rintro ρ hc hf ⟨e73, -⟩
                have q := hkb0.out
                exact stepW_val (w' := w1) (v := .int .u8 (kb.toNat : Int)) (by go_simp) ⟨s, fun _ _ => rfl, rfl, ⟨hC.1, by simpa [upd] using hC.2⟩⟩
              · refine ⟨by kernel_rfl, fun o ho => ?_⟩
                cases ho
                refine stepW_see [(76, .int .u64 (N5 : Int))] (by kernel_rfl) (fun _ => rfl) (fun _ => rfl) ?_
                rintro ρ hc hf ⟨e76, -⟩
                have q := hM9.out
                exact stepW_val (w' := w1) (v := .int .u64 (5 + (N5 : Int))) (by go_simp) ⟨s, fun _ _ => rfl, rfl, ⟨hC.1, by simpa [upd] using hC.2⟩⟩
              · refine ⟨by kernel_rfl, fun o ho => ?_⟩
                cases ho
                refine stepW_see [(75, .string body), (77, .int .u64 (5 + (N5 : Int)))] (by kernel_rfl) (fun _ => rfl) (fun _ => rfl) ?_
                rintro ρ hc hf ⟨e75, e77, -⟩
                have q2 := hM6.out
                have q3 := hM6i.out
                have qd := HD.out
                have q4 := hM0.out
                have q5 := hM55.out
                have q6 := hMT.out
                exact stepW_val (w' := w1) (v := .string D) (by go_simp) ⟨s, fun _ _ => rfl, rfl, ⟨hC.1, by simpa [upd] using hC.2⟩⟩
              · refine ⟨by kernel_rfl, fun o ho => ?_⟩
                cases ho
                refine stepW_see [(74, .int .u8 (kb.toNat : Int)), (78, .string D)] (by kernel_rfl) (fun _ => rfl) (fun _ => rfl) ?_
                rintro ρ hc hf ⟨e74, e78, -⟩
                exact stepW_val (w' := w1) (v := .agg #[(.int .u8 (kb.toNat : Int)), .string D]) (by go_simp) ⟨s, fun _ _ => rfl, rfl, ⟨hC.1, by simpa [upd] using hC.2⟩⟩
              · refine ⟨by kernel_rfl, fun o ho => ?_⟩
                cases ho
                refine stepW_see [(79, .agg #[(.int .u8 (kb.toNat : Int)), .string D])] (by kernel_rfl) (fun _ => rfl) (fun _ => rfl) ?_
                rintro ρ hc hf ⟨e79, -⟩
                have hL9 : L 9 = false := by
                  cases c : L 9 with
                  | false => rfl
                  | true => exact absurd (hdc 9 c 8 (by decide)) (by rw [hL]; decide)
                have hO := hC.2.1
                rw [if_neg (by rw [hL9]; decide)] at hO
                have hBw : B ≤ w1.heap.size := by rw [HBB.out]; exact hC.1.size
                refine stepW_val (w' := w1.alloc (.cells #[(.int .u8 (kb.toNat : Int)), .string D] 55)) (v := .slice (some ⟨w1.heap.size, 0, none⟩) 1 1) (by go_simp) ⟨(w1.heap.size, s.2), vs_other (i := 8) rfl hL, rfl, hC.1.alloc hBw _, ?_, fun _ _ => ⟨w1, rfl, rfl, hO, hC.1⟩⟩
                rw [if_neg (by simp [upd, hL9])]
                exact hO.alloc _
              · refine ⟨by kernel_rfl, fun o ho => ?_⟩
                cases ho
                refine stepW_see [(72, u7), (80, .slice (some ⟨s.1, 0, none⟩) 1 1)] (by kernel_rfl) (fun _ => rfl) (fun _ => rfl) ?_
                rintro ρ hc hf ⟨e72, e80, -⟩
                obtain ⟨W0, rfl, hs1, hO, hBW⟩ := hC.2.2 (ha 8 (by decide)) hL
                have hBw : B ≤ W0.heap.size := by rw [HBB.out]; exact hBW.size
                obtain ⟨v', w2, hrun, hown, hg⟩ := app_sec (t := 25) (e := 55) (ty := 25) ⟨kb, D⟩ hO (by omega) hBw Try.underlying25 info55
                have hL10 : L 10 = false := by
                  cases c : L 10 with
                  | false => rfl
                  | true => exact absurd (hdc 10 c 9 (by decide)) (by rw [hL]; decide)
                refine stepW_app _ _ 25 rfl _ _ v' e72 (e80.trans (by rw [hs1])) hrun ⟨(s.1, v'), vs_two (i := 9) (k := 10) rfl hL hL10, rfl, hBW.trans (grown_below hg (fun k e => (hO.lt k e).1) hBw), ?_, fun _ h => by simp [upd] at h⟩
                rw [if_pos (by simp [upd])]
                exact hown
            · rintro ⟨G, v1⟩ L w8 ⟨hC1, hC2, -⟩ hall
              simp only [List.toList_toArray, putsZ_some, putsZ_none, putsZ_nil, List.setIfInBounds_toArray, List.set_cons_zero, List.set_cons_succ]
              rw [if_pos (hall 9 (by decide))] at hC2
              have HO8 := Lib.hid hC2
              have HB8 := Lib.hid hC1
              clear hC1 hC2 hall
              have q2 := hM6.out
              have q3 := hM6i.out
              have q4 := hM0.out
              have q6 := hMT.out
              have q9 := hM9.out
              go_wp2
              go_roundw
              case rel =>
                refine ⟨_, _, _, _, _, ⟨acc ++ [⟨kb, D⟩], _, rfl, HO8.out, HB8.out, f, ?_, ?_, ?_⟩, rfl, rfl, rfl, rfl, rfl⟩
                · rw [HSP.out, HE.out]
                  cases splitB f (body.extract (5 + N5) body.size) with
                  | none => rfl
                  | some l => simp
                · rw [ext_size _ _ _ (Nat.le_refl _)]; have := hM6.out; omega
                · rw [ext_size _ _ _ (Nat.le_refl _), List.length_append]; have := hM6.out; simp; omega
              case measure =>
                show (body.extract (5 + N5) body.size).size < body.size
                rw [ext_size _ _ _ (Nat.le_refl _)]
                have := hM6.out
                omega
end Go.Proofs.Ytmbafeemiclmeaa
