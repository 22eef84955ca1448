/- The statement CrcBursts, walked: for every text, every place and every pattern of bits it returns true. -/
import Derived.Test.YtglkghieghideaaCrcSums
namespace Go.Proofs.Ytglkghieghideaa
open Go.RowKit

theorem four_text (w : World) (n N : Nat) (hN : N < 4294967296) :
    (convert 40 9 (.slice (some ⟨w.heap.size, 0, none⟩) 4 4)).run Try.prog ((w.drewN n).alloc (.cells #[Value.int .u8 ((N : Int) % 256), .int .u8 ((N : Int) / 256 % 256), .int .u8 ((N : Int) / 65536 % 256), .int .u8 ((N : Int) / 16777216)] 5))
      = .ok (.string ⟨(Crc.le4 N).toArray⟩) ((w.drewN n).alloc (.cells #[Value.int .u8 ((N : Int) % 256), .int .u8 ((N : Int) / 256 % 256), .int .u8 ((N : Int) / 65536 % 256), .int .u8 ((N : Int) / 16777216)] 5)) := by
  have hc : #[Value.int .u8 ((N : Int) % 256), .int .u8 ((N : Int) / 256 % 256), .int .u8 ((N : Int) / 65536 % 256), .int .u8 ((N : Int) / 16777216)] = ((Crc.le4 N).map bv).toArray := by
    simp only [Crc.le4, List.map_cons, List.map_nil, bv]
    have e : N / 16777216 % 256 = N / 16777216 := by omega
    rw [e]
    simp
    omega
  rw [hc]
  have hb := Blk.new (w.drewN n) ((Crc.le4 N).map bv).toArray 5
  have hh : Has ((w.drewN n).alloc (.cells ((Crc.le4 N).map bv).toArray 5)) w.heap.size ((Crc.le4 N).map bv) := by
    intro j hj
    refine ⟨?_, hb.free j⟩
    have := hb.cell j
    rw [List.getElem?_toArray, List.getElem?_eq_getElem hj] at this
    exact this
  exact hh.text 40 9 5 Try.underlying40 Try.underlying5 Try.underlying9 4 rfl

theorem cat_size (t : ByteArray) (L : List UInt8) (h : L.length = 4) : (t ++ (⟨L.toArray⟩ : ByteArray)).size = t.size + 4 := by
  have : (t ++ (⟨L.toArray⟩ : ByteArray)).size = t.size + (⟨L.toArray⟩ : ByteArray).size := by simp
  rw [this]
  show t.size + L.toArray.size = _
  simp [h]

theorem cat_list (t : ByteArray) (L : List UInt8) : (t ++ (⟨L.toArray⟩ : ByteArray)).data.toList = t.data.toList ++ L := by simp

theorem turnS_size (X : ByteArray) (a : Int) (b : Nat) : (turnS X a b).size = X.size := by
  unfold turnS
  split
  · show (Crc.turn X.data.toList a.toNat b).toArray.size = X.data.size
    unfold Crc.turn
    rw [List.size_toArray, Crc.turnK_length, Array.length_toList]
  · rfl

/-- The four bytes behind a text, as one number. -/
theorem four_num (c0 c1 c2 c3 : UInt8) :
    bits .or .u32 (bits .or .u32 (bits .or .u32 (c0.toNat : Int) (IntKind.u32.wrap ((c1.toNat : Int) * 256))) (IntKind.u32.wrap ((c2.toNat : Int) * 65536))) (IntKind.u32.wrap ((c3.toNat : Int) * 16777216)) = ((Crc.num [c0, c1, c2, c3] : Nat) : Int) := by
  have h0 := c0.toNat_lt
  have h1 := c1.toNat_lt
  have h2 := c2.toNat_lt
  have h3 := c3.toNat_lt
  have e1 : IntKind.u32.wrap ((c1.toNat : Int) * 256) = ((256 * c1.toNat : Nat) : Int) := by rw [IntKind.wrap_u32']; omega
  have e2 : IntKind.u32.wrap ((c2.toNat : Int) * 65536) = ((65536 * c2.toNat : Nat) : Int) := by rw [IntKind.wrap_u32']; omega
  have e3 : IntKind.u32.wrap ((c3.toNat : Int) * 16777216) = ((16777216 * c3.toNat : Nat) : Int) := by rw [IntKind.wrap_u32']; omega
  rw [e1, e2, e3, u32_or_nat _ _ (by omega) (by omega), Nat.or_comm, nat_join 8 _ _ (by omega) (by omega)]
  rw [u32_or_nat _ _ (by omega) (by omega), Nat.or_comm, nat_join 16 _ _ (by omega) (by omega)]
  rw [u32_or_nat _ _ (by omega) (by omega), Nat.or_comm, nat_join 24 _ _ (by omega) (by omega)]
  rw [Crc.num_eq, Crc.num_eq, Crc.num_eq, Crc.num_eq, Crc.num]
  omega

theorem four_num' (c0 c1 c2 c3 : UInt8) (h0 : 0 < (⟨#[c0, c1, c2, c3]⟩ : ByteArray).size) (h1 : 1 < (⟨#[c0, c1, c2, c3]⟩ : ByteArray).size) (h2 : 2 < (⟨#[c0, c1, c2, c3]⟩ : ByteArray).size) (h3 : 3 < (⟨#[c0, c1, c2, c3]⟩ : ByteArray).size) :
    bits .or .u32 (bits .or .u32 (bits .or .u32 ((((⟨#[c0, c1, c2, c3]⟩ : ByteArray)[0]'h0).toNat : Int) % 4294967296) ((((⟨#[c0, c1, c2, c3]⟩ : ByteArray)[1]'h1).toNat : Int) % 4294967296 * 256 % 4294967296)) ((((⟨#[c0, c1, c2, c3]⟩ : ByteArray)[2]'h2).toNat : Int) % 4294967296 * 65536 % 4294967296)) ((((⟨#[c0, c1, c2, c3]⟩ : ByteArray)[3]'h3).toNat : Int) % 4294967296 * 16777216 % 4294967296) = ((Crc.num [c0, c1, c2, c3] : Nat) : Int) := by
  rw [← four_num]
  simp only [IntKind.wrap_u32']
  show bits .or .u32 (bits .or .u32 (bits .or .u32 ((c0.toNat : Int) % 4294967296) ((c1.toNat : Int) % 4294967296 * 256 % 4294967296)) ((c2.toNat : Int) % 4294967296 * 65536 % 4294967296)) ((c3.toNat : Int) % 4294967296 * 16777216 % 4294967296) = _
  have e : ∀ c : UInt8, (c.toNat : Int) % 4294967296 = (c.toNat : Int) := fun c => by have := c.toNat_lt; omega
  rw [e, e, e, e]

theorem four_of (V : ByteArray) (h : V.size = 4) : ∃ c0 c1 c2 c3, V = ⟨#[c0, c1, c2, c3]⟩ := by
  obtain ⟨⟨l⟩⟩ := V
  match l, h with
  | [c0, c1, c2, c3], _ => exact ⟨c0, c1, c2, c3, rfl⟩

theorem burst_end (t X T U : ByteArray) (L : List UInt8) (N : Nat) (a : Int) (b : Nat) (c0 c1 c2 c3 : UInt8) (hN : N = Crc.sum t.data.toList) (hL : L = Crc.le4 N) (hX : X = t ++ (⟨L.toArray⟩ : ByteArray)) (hT : T = turnS X a b) (hne : ¬ T = X)
    (hU : U = T.extract 0 t.size) (hV : T.extract t.size T.size = ⟨#[c0, c1, c2, c3]⟩) : (((Crc.sum U.data.toList : Nat) : Int) != ((Crc.num [c0, c1, c2, c3] : Nat) : Int)) = true := by
  rw [bne_iff_ne]
  intro h
  have h' : Crc.sum U.data.toList = Crc.num [c0, c1, c2, c3] := by omega
  have hXl : X.data.toList = t.data.toList ++ Crc.le4 (Crc.sum t.data.toList) := by rw [hX, cat_list, hL, hN]
  have hTl : T.data.toList = Crc.turn X.data.toList a.toNat b := by
    rw [hT]
    unfold turnS
    split
    · rfl
    · rename_i c
      exfalso
      apply hne
      rw [hT]
      unfold turnS
      rw [if_neg c]
  have hsp : T.data.toList = U.data.toList ++ [c0, c1, c2, c3] := by
    have e1 : U.data.toList = T.data.toList.take t.size := by rw [hU]; simp
    have e2 : (T.extract t.size T.size).data.toList = T.data.toList.drop t.size := by
      simp only [ByteArray.data_extract, Array.toList_extract, List.extract_eq_take_drop]
      exact List.take_of_length_le (by rw [List.length_drop, Array.length_toList]; exact Nat.le_refl _)
    rw [hV] at e2
    have e3 : [c0, c1, c2, c3] = T.data.toList.drop t.size := e2
    rw [e1, e3, List.take_append_drop]
  have hne' : Crc.turn (t.data.toList ++ Crc.le4 (Crc.sum t.data.toList)) a.toNat b ≠ t.data.toList ++ Crc.le4 (Crc.sum t.data.toList) := by
    intro e
    apply hne
    apply ByteArray.ext
    apply Array.toList_inj.1
    rw [hTl, hXl, e]
  exact Crc.burst t.data.toList a.toNat b U.data.toList [c0, c1, c2, c3] rfl (by rw [← hXl, ← hTl, hsp]) hne' h'

set_option maxRecDepth 100000 in
set_option maxHeartbeats 4000000 in
theorem bursts_walk (s : ByteArray) (a : Int) (b : Nat) (w : World) (hs : s.size ≤ maxLen) (hb : b < 4294967296) :
    Calls Try.prog 7 #[.string s, .int .i64 a, .int .u32 b] w fun e w' => e = .returned (.bool true) ∧ Below w.heap.size w w' := by
  have hz := zero44
  unfold maxLen at hs
  go_enter Try.func7, Try.ntmps7
  go_upto_region 3 with (go_at_call 20; refine (speaks2_any _).mono ?_; rintro e w1 ⟨rfl, hb1⟩)
  go_cut [0] (fun v wx => (∃ t : ByteArray, v = .string t ∧ t.size ≤ 200) ∧ Below w.heap.size w wx)
  case first =>
    go_wp2_with (fail)
    all_goals
      go_meet
      exact ⟨⟨_, rfl, by first | omega | (simp; omega)⟩, hb1⟩
  case rest =>
    obtain ⟨⟨t, rfl, ht⟩, hB⟩ := hcut
    clear hs
    go_wp2_with (fail)
    refine (make_any _).mono ?_
    rintro e w1 ⟨rfl, hb1⟩
    have hi := Lib.hid size44
    have hone := Lib.hid (tblK_one 256)
    have hn := Lib.hid (Blk.new w1 zeros 44)
    obtain ⟨hT, hg⟩ := stored w1
    have HT := Lib.hid hT
    have HG := Lib.hid hg
    clear hT hg
    go_wp2_with (refine wpList_store_row rfl 44 _ _ rfl w1.heap.size (tblK 256) rfl rfl 44 zeros hn.out hi.out (by rw [tblK_size]; rfl) hone.out ?_)
    have hB2 := (hB.trans (hb1.mono hB.size)).grown HG.out (Nat.le_trans hB.size hb1.size) (by simp)
    generalize ((w1.alloc (Obj.cells zeros 44)).setRow w1.heap.size (tblK 256)) = w2 at *
    generalize w1.heap.size = G at *
    have hT := Lib.hid HT.out
    have hts : t.size ≤ 9223372036854775807 := by omega
    clear HT hb1 hn HG hi hone hz hB
    refine (sum_any G t _ hT.out hts).mono ?_
    rintro e w3 ⟨rfl, n, rfl⟩
    have hlt := Crc.sum_lt t.data.toList
    obtain ⟨N, hN⟩ : ∃ N, N = Crc.sum t.data.toList := ⟨_, rfl⟩
    rw [← hN] at hlt ⊢
    have HN := Lib.hid hN
    clear hN
    have hrun := four_text w2 n N hlt
    obtain ⟨L, hL⟩ : ∃ L, L = Crc.le4 N := ⟨_, rfl⟩
    have hL4 : L.length = 4 := by rw [hL]; rfl
    have hcat : t.size + L.length ≤ 9223372036854775807 := by omega
    have hnum : Crc.num L = N := by rw [hL]; exact Crc.num_le4 N hlt
    rw [← hL] at hrun
    have HL := Lib.hid hL
    have HL4 := Lib.hid hL4
    have HNUM := Lib.hid hnum
    clear hL hL4 hnum
    go_wp2_with (fail)
    obtain ⟨X, hX⟩ : ∃ X, X = t ++ (⟨L.toArray⟩ : ByteArray) := ⟨_, rfl⟩
    rw [← hX]
    have HX := Lib.hid hX
    have hXs : X.size = t.size + 4 := by rw [hX]; exact cat_size t L HL4.out
    clear hX hrun hcat
    refine (turn_any X a b _ hb).mono ?_
    rintro e w3 ⟨rfl, hb3⟩
    obtain ⟨T, hT1⟩ : ∃ T, T = turnS X a b := ⟨_, rfl⟩
    rw [← hT1]
    have HT := Lib.hid hT1
    clear hT1
    have hTs : T.size = t.size + 4 := by rw [HT.out, turnS_size, hXs]
    have hbA := (below_drewN hB2 n).alloc (by show w.heap.size ≤ w2.heap.size; exact hB2.size) (.cells #[Value.int .u8 ((N : Int) % 256), .int .u8 ((N : Int) / 256 % 256), .int .u8 ((N : Int) / 65536 % 256), .int .u8 ((N : Int) / 16777216)] 5)
    have hB3 := hbA.trans (hb3.mono hbA.size)
    have hG := hT.out.lt
    have hT3 : Tbl w3 G := ((hT.out.drewN n).below ((Below.refl _ _).alloc (Nat.le_refl _) _) hG).below hb3 (by simp; omega)
    have HT3 := Lib.hid hT3
    clear hT hT3 hbA hb3 hB2
    by_cases hTX : T = X
    · subst hTX
      go_wp2_with (fail)
      go_ret
      exact ⟨rfl, hB3⟩
    · have hne : (T.toList == X.toList) = false := by
        rw [beq_eq_false_iff_ne]
        intro e
        apply hTX
        rw [ByteArray.toList_eq, ByteArray.toList_eq] at e
        exact ByteArray.ext (Array.toList_inj.1 e)
      have HTX := Lib.hid hTX
      clear hTX
      have ht0 : (0 : Int) ≤ (t.size : Int) := by omega
      have ht1 : (t.size : Int) ≤ (T.size : Int) := by omega
      have ht2 : t.size ≤ T.size := by omega
      have HTs := Lib.hid hTs
      have HXs := Lib.hid hXs
      clear hTs hXs
      go_upto_region 10 with (fail)
      go_quiet (fail)
      have hV4 : (T.extract t.size T.size).size = 4 := by have := HTs.out; simp; omega
      obtain ⟨c0, c1, c2, c3, hV⟩ := four_of _ hV4
      obtain ⟨U, hU⟩ : ∃ U, U = T.extract 0 t.size := ⟨_, rfl⟩
      have hUs : U.size ≤ 9223372036854775807 := by rw [hU]; simp; omega
      have HV := Lib.hid hV
      have HU := Lib.hid hU
      have hlast := Lib.hid (burst_end t X T U L N a b c0 c1 c2 c3 HN.out HL.out HX.out HT.out HTX.out HU.out HV.out)
      rw [← hU, hV]
      have hB4 := below_drewN hB3 nq
      have hT4 := Lib.hid (HT3.out.drewN nq)
      clear hV hV4 hU hne ht0 ht1 ht2 hB3
      generalize w3.drewN nq = w4 at *
      go_upto_region 11 with (fail)
      go_quiet (fail)
      rw [four_num']
      have hne2 := hlast.out
      have hB5 := below_drewN hB4 nq
      have hT5 := Lib.hid (hT4.out.drewN nq)
      clear hB4
      generalize w4.drewN nq = w5 at *
      go_wp2_with (fail)
      refine (sum_any G U _ hT5.out hUs).mono ?_
      rintro e w6 ⟨rfl, n6, rfl⟩
      go_wp2_with (fail)
      go_ret
      exact ⟨rfl, below_drewN hB5 n6⟩

theorem bursts_law (s : ByteArray) (a b : Int) (w : World) (hs : s.size ≤ maxLen) (_ : (Lit.int .i64 a).wf = true) (hb : (Lit.int .u32 b).wf = true) :
    Calls Try.prog 7 #[.string s, .int .i64 a, .int .u32 b] w fun e w' => e = .returned (.bool true) ∧ Below w.heap.size w w' := by
  obtain ⟨b, rfl, hb4⟩ := u32_nat hb
  exact bursts_walk s a b w hs hb4
end Go.Proofs.Ytglkghieghideaa
