/- The statement TlvParses, walked. -/
import Derived.Test.YtmbafeemiclmeaaTv11
namespace Go.Proofs.Ytmbafeemiclmeaa
open Go.RowKit
set_option linter.unusedSimpArgs false
set_option linter.unusedVariables false

set_option maxRecDepth 100000 in
set_option maxHeartbeats 4000000 in
theorem parses_walk (s : ByteArray) (right : Bool) (w : World) (hs : s.size ≤ maxLen) :
    Calls Try.prog 4 #[.string s, .bool right] w fun e w' => e = .returned (.bool true) ∧ Below w.heap.size w w' := by
  unfold maxLen at hs
  have hs2 : s.size ≤ 9223372036854775807 := hs
  have HSP := Lib.hid fun w => speaks_any w
  clear hs
  go_enter Try.func4, Try.ntmps4
  go_upto_region 3 with (go_at_call 6; refine (HSP.out _).mono ?_; rintro e w1 ⟨rfl, hb1⟩)
  have HB1 := Lib.hid hb1
  clear hb1
  go_upto_region 4 with fail
  rw [show (min (s.size : Int) 120).toNat = min s.size 120 by omega]
  obtain ⟨T, hT⟩ : ∃ T, T = s.extract 0 (min s.size 120) := ⟨_, rfl⟩
  have hTs : T.size ≤ 120 := by rw [hT, ext_size _ _ _ (by omega)]; omega
  rw [← hT]
  clear hT
  cases right with
  | false =>
    obtain ⟨X, hX⟩ : ∃ X, X = T := ⟨_, rfl⟩
    subst hX
    have HBX := HB1
    have hXs : X.size ≤ 1000000 := by omega
    obtain ⟨n0, hn0⟩ : ∃ n, n = parseN X := ⟨_, rfl⟩
    obtain ⟨vb, hvb⟩ : ∃ v, v = parseV X := ⟨_, rfl⟩
    obtain ⟨m, hmm⟩ : ∃ m, m = parseL X := ⟨_, rfl⟩
    have HP1 := Lib.hid (parse_any X w1 (by omega))
    have HR := Lib.hid (fun w => rparse_any X w (by omega))
    rw [← hn0, ← hvb, ← hmm] at HP1 HR
    have HBP := Lib.hid (fun h : n0 = 0 => build_parse (s := X) (by rw [← hn0]; exact h))
    rw [← hvb, ← hmm] at HBP
    unfold bv at HP1 HR
    have HML := Lib.hid (show n0 ≠ 0 → m = [] from fun h => by rw [hmm]; unfold parseL; rw [if_neg (by rw [← hn0]; exact h)])
    clear hn0 hvb hmm
    go_upto_region 8 with fail
    go_wp2_with (fail)
    refine HP1.out.mono ?_
    rintro e w5 ⟨sv, rfl, ho5, hb5⟩
    have HO5 := Lib.hid ho5.sl
    have HB5 := Lib.hid (HBX.out.trans (hb5.mono HBX.out.size))
    clear ho5 hb5
    go_wp2_with (fail)
    refine (HR.out w5).mono ?_
    rintro e w6 ⟨tv, rfl, ho6, hb6⟩
    have HO6 := Lib.hid ho6.sl
    have HO7 := Lib.hid (HO5.out.below hb6)
    have HB6 := Lib.hid (HB5.out.trans (hb6.mono HB5.out.size))
    have hml : m.length ≤ 1000000 := by
      rcases Nat.eq_zero_or_pos n0 with h0 | h0
      · have q := (HBP.out h0).2.2.1
        have := len_body m
        omega
      · rw [HML.out (by omega)]; exact Nat.zero_le _
    clear ho6 hb6
    by_cases c0 : n0 = 0
    · subst c0
      obtain ⟨q1, q2, q3, q4⟩ := HBP.out rfl
      go_upto_region 14 with (go_at_call 11; refine (same_yes HO7.out HO6.out hml).mono ?_; rintro e w7 ⟨rfl, hb7⟩)
      have HB7 := Lib.hid (HB6.out.trans (hb7.mono HB6.out.size))
      have HBU := Lib.hid (build_any vb (HO7.out.below hb7) (by omega) hml)
      rw [q1, q2] at HBU
      unfold bv at HBU
      clear hb7 q1 q2 q3 q4
      go_wp2_with (go_at_call 8; with_reducible refine HBU.out.mono ?_; rintro e w8 ⟨rfl, hb8⟩)
      go_ret
      exact ⟨rfl, HB7.out.trans (hb8.mono HB7.out.size)⟩
    · have c1 : ¬ (n0 : Int) = 0 := by omega
      go_wp2_with (go_at_call 11; refine (same_yes HO7.out HO6.out hml).mono ?_; rintro e w7 ⟨rfl, hb7⟩)
      go_ret
      exact ⟨rfl, HB6.out.trans (hb7.mono HB6.out.size)⟩

  | true =>
    have hz := zero44
    go_wp2_with (fail)
    refine (make_any _).mono ?_
    rintro e w2 ⟨rfl, hb2⟩
    have hi := Lib.hid size44
    have hone := Lib.hid (tblK_one 256)
    have hn := Lib.hid (Blk.new w2 zeros 39)
    obtain ⟨hT2, hg⟩ := stored w2
    have HT := Lib.hid hT2
    have HG := Lib.hid hg
    have HB2 := Lib.hid (HB1.out.trans (hb2.mono HB1.out.size))
    clear hT2 hg hb2 HB1
    go_wp2_with (refine wpList_store_row rfl 39 _ _ rfl w2.heap.size (tblK 256) rfl rfl 39 zeros hn.out hi.out (by rw [tblK_size]; rfl) hone.out ?_)
    have HB3 := Lib.hid (HB2.out.grown HG.out HB2.out.size (by simp))
    generalize ((w2.alloc (Obj.cells zeros 39)).setRow w2.heap.size (tblK 256)) = w3 at *
    generalize w2.heap.size = G at *
    have hTT := Lib.hid HT.out
    clear HT HB2 hn HG hi hone hz
    refine (sum_any G T _ hTT.out (by omega)).mono ?_
    rintro e w4 ⟨rfl, q⟩
    have hlt := Crc.sum_lt T.data.toList
    obtain ⟨N, hN⟩ : ∃ N, N = Crc.sum T.data.toList := ⟨_, rfl⟩
    rw [← hN] at hlt ⊢
    have HN := Lib.hid hN
    have HB4 : Below w.heap.size w w4 := by
      obtain ⟨n, rfl⟩ := q
      exact below_drewN HB3.out n
    have hb := Blk.new w4 #[Value.int .u8 ((N : Int) % 256), .int .u8 ((N : Int) / 256 % 256), .int .u8 ((N : Int) / 65536 % 256), .int .u8 ((N : Int) / 16777216)] 5
    have hh : Has (w4.alloc (.cells #[Value.int .u8 ((N : Int) % 256), .int .u8 ((N : Int) / 256 % 256), .int .u8 ((N : Int) / 65536 % 256), .int .u8 ((N : Int) / 16777216)] 5)) w4.heap.size ((Crc.le4 N).map bv) := by
      intro j hj
      refine ⟨?_, hb.free j⟩
      have := hb.cell j
      rw [le4_val N hlt] at this ⊢
      rw [List.getElem?_toArray, List.getElem?_eq_getElem hj] at this
      exact this
    have hrun := hh.text (P := Try.prog) (cap := 4) 43 9 5 Try.underlying43 Try.underlying5 Try.underlying9 4 rfl
    obtain ⟨S4, hS4⟩ : ∃ S : ByteArray, S = ⟨(Crc.le4 N).toArray⟩ := ⟨_, rfl⟩
    have z4 : S4.size = 4 := by rw [hS4]; rfl
    rw [← hS4] at hrun
    clear hh hb q hN hTT HB3 hS4
    go_upto_region 8 with fail
    have hBX := HB4.alloc HB4.size (.cells #[Value.int .u8 ((N : Int) % 256), .int .u8 ((N : Int) / 256 % 256), .int .u8 ((N : Int) / 65536 % 256), .int .u8 ((N : Int) / 16777216)] 5)
    generalize w4.alloc (.cells #[Value.int .u8 ((N : Int) % 256), .int .u8 ((N : Int) / 256 % 256), .int .u8 ((N : Int) / 65536 % 256), .int .u8 ((N : Int) / 16777216)] 5) = wx at *
    obtain ⟨X, hX⟩ : ∃ X, X = T ++ S4 := ⟨_, rfl⟩
    have hXs : X.size ≤ 1000000 := by rw [hX, ByteArray.size_append]; omega
    rw [← hX]
    have HBX := Lib.hid hBX
    clear hX hBX HB4 hrun
    obtain ⟨n0, hn0⟩ : ∃ n, n = parseN X := ⟨_, rfl⟩
    obtain ⟨vb, hvb⟩ : ∃ v, v = parseV X := ⟨_, rfl⟩
    obtain ⟨m, hmm⟩ : ∃ m, m = parseL X := ⟨_, rfl⟩
    have HP1 := Lib.hid (parse_any X wx (by omega))
    have HR := Lib.hid (fun w => rparse_any X w (by omega))
    rw [← hn0, ← hvb, ← hmm] at HP1 HR
    have HBP := Lib.hid (fun h : n0 = 0 => build_parse (s := X) (by rw [← hn0]; exact h))
    rw [← hvb, ← hmm] at HBP
    unfold bv at HP1 HR
    have HML := Lib.hid (show n0 ≠ 0 → m = [] from fun h => by rw [hmm]; unfold parseL; rw [if_neg (by rw [← hn0]; exact h)])
    clear hn0 hvb hmm
    go_upto_region 8 with fail
    go_wp2_with (fail)
    refine HP1.out.mono ?_
    rintro e w5 ⟨sv, rfl, ho5, hb5⟩
    have HO5 := Lib.hid ho5.sl
    have HB5 := Lib.hid (HBX.out.trans (hb5.mono HBX.out.size))
    clear ho5 hb5
    go_wp2_with (fail)
    refine (HR.out w5).mono ?_
    rintro e w6 ⟨tv, rfl, ho6, hb6⟩
    have HO6 := Lib.hid ho6.sl
    have HO7 := Lib.hid (HO5.out.below hb6)
    have HB6 := Lib.hid (HB5.out.trans (hb6.mono HB5.out.size))
    have hml : m.length ≤ 1000000 := by
      rcases Nat.eq_zero_or_pos n0 with h0 | h0
      · have q := (HBP.out h0).2.2.1
        have := len_body m
        omega
      · rw [HML.out (by omega)]; exact Nat.zero_le _
    clear ho6 hb6
    by_cases c0 : n0 = 0
    · subst c0
      obtain ⟨q1, q2, q3, q4⟩ := HBP.out rfl
      go_upto_region 14 with (go_at_call 11; refine (same_yes HO7.out HO6.out hml).mono ?_; rintro e w7 ⟨rfl, hb7⟩)
      have HB7 := Lib.hid (HB6.out.trans (hb7.mono HB6.out.size))
      have HBU := Lib.hid (build_any vb (HO7.out.below hb7) (by omega) hml)
      rw [q1, q2] at HBU
      unfold bv at HBU
      clear hb7 q1 q2 q3 q4
      go_wp2_with (go_at_call 8; with_reducible refine HBU.out.mono ?_; rintro e w8 ⟨rfl, hb8⟩)
      go_ret
      exact ⟨rfl, HB7.out.trans (hb8.mono HB7.out.size)⟩
    · have c1 : ¬ (n0 : Int) = 0 := by omega
      go_wp2_with (go_at_call 11; refine (same_yes HO7.out HO6.out hml).mono ?_; rintro e w7 ⟨rfl, hb7⟩)
      go_ret
      exact ⟨rfl, HB6.out.trans (hb7.mono HB6.out.size)⟩
end Go.Proofs.Ytmbafeemiclmeaa
