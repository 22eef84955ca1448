/- addr.Parse: a text as an address. -/
import Derived.Test.YtegmhjdddcbanaaTell
namespace Go.Proofs.Ytegmhjdddcbanaa
open Go.RowKit

/-- A byte of a text; 0 beyond its end. -/
def atN (s : ByteArray) (i : Nat) : Nat := (s.data.toList.getD i 0).toNat
/-- Are a place's bytes of an address told well? -/
def okAt (s : ByteArray) (k : Nat) : Bool := hexOk (atN s (k * 3)) && hexOk (atN s (k * 3 + 1)) && (decide (k = 0) || decide (atN s (k * 3 - 1) = 58))
def valAt (s : ByteArray) (k : Nat) : Nat := pairV (atN s (k * 3)) (atN s (k * 3 + 1))
def allOk (s : ByteArray) : Bool := okAt s 0 && okAt s 1 && okAt s 2 && okAt s 3 && okAt s 4 && okAt s 5
def parseV (s : ByteArray) (i : Nat) : Nat := if s.size = 17 ∧ allOk s = true then valAt s i else 0
def parseE (s : ByteArray) : Int := if 17 < s.size then 3 else if s.size = 17 ∧ allOk s = true then 0 else 4

theorem ext2 (s : ByteArray) (i : Nat) (h : i + 2 ≤ s.size) : ∃ a b : UInt8, s.extract i (i + 2) = ⟨#[a, b]⟩ ∧ a.toNat = atN s i ∧ b.toNat = atN s (i + 1) := by
  have h1 : i < s.data.toList.length := by rw [Array.length_toList]; exact Nat.lt_of_lt_of_le (by omega) h
  have h2 : i + 1 < s.data.toList.length := by rw [Array.length_toList]; exact Nat.lt_of_lt_of_le (by omega) h
  refine ⟨s.data.toList[i], s.data.toList[i + 1], ?_, ?_, ?_⟩
  · apply ByteArray.ext
    apply Array.ext'
    simp only [ByteArray.data_extract, Array.toList_extract, List.extract_eq_take_drop]
    rw [List.drop_eq_getElem_cons h1, List.drop_eq_getElem_cons h2, show i + 2 - i = 2 by omega]
    rfl
  · simp only [atN, List.getD_eq_getElem?_getD]
    rw [List.getElem?_eq_getElem h1]; rfl
  · simp only [atN, List.getD_eq_getElem?_getD]
    rw [List.getElem?_eq_getElem h2]; rfl

theorem atN_lt (s : ByteArray) (i : Nat) : atN s i < 256 := (s.data.toList.getD i 0).toNat_lt

theorem at_get (s : ByteArray) (i : Nat) (h : i < s.size) : (s[i].toNat) = atN s i := by
  have h1 : i < s.data.toList.length := by rw [Array.length_toList]; exact h
  simp only [atN, List.getD_eq_getElem?_getD]
  rw [List.getElem?_eq_getElem h1]
  rfl

theorem allOk_iff (s : ByteArray) : allOk s = true ↔ ∀ k, k < 6 → okAt s k = true := by
  unfold allOk
  constructor
  · intro h k hk
    simp only [Bool.and_eq_true] at h
    obtain ⟨⟨⟨⟨⟨h0, h1⟩, h2⟩, h3⟩, h4⟩, h5⟩ := h
    match k, hk with
    | 0, _ => exact h0
    | 1, _ => exact h1
    | 2, _ => exact h2
    | 3, _ => exact h3
    | 4, _ => exact h4
    | 5, _ => exact h5
  · intro h
    rw [h 0 (by omega), h 1 (by omega), h 2 (by omega), h 3 (by omega), h 4 (by omega), h 5 (by omega)]
    rfl

/-- What is parsed so far. -/
def soFar (s : ByteArray) (k i : Nat) : Nat := if i < k then valAt s i else 0

theorem soFar_step (s : ByteArray) (k : Nat) (hk : k < 6) : (macA (soFar s k)).setIfInBounds k (.int .u8 (valAt s k : Nat)) = macA (soFar s (k + 1)) := by
  rw [macA_set _ _ _ hk]
  apply macA_congr
  intro i hi
  unfold soFar
  by_cases c : i = k
  · subst c
    rw [if_pos rfl, if_pos (by omega)]
  · rw [if_neg c]
    by_cases d : i < k
    · rw [if_pos d, if_pos (by omega)]
    · rw [if_neg d, if_neg (by omega)]

theorem parse_bad (s : ByteArray) (k : Nat) (hk : k < 6) (h : okAt s k = false) (hs : s.size = 17) : mac (parseV s) = .agg nil6 ∧ parseE s = 4 := by
  have hn : ¬ (s.size = 17 ∧ allOk s = true) := by
    intro c
    have := (allOk_iff s).1 c.2 k hk
    rw [h] at this
    cases this
  refine ⟨?_, ?_⟩
  · have : ∀ i, i < 6 → parseV s i = 0 := fun i _ => by unfold parseV; rw [if_neg hn]
    rw [mac_congr (g := fun _ => 0) this]
    rfl
  · unfold parseE
    rw [if_neg (by omega), if_neg hn]

theorem parse_good (s : ByteArray) (h : ∀ k, k < 6 → okAt s k = true) (hs : s.size = 17) : mac (soFar s 6) = mac (parseV s) ∧ parseE s = 0 := by
  have hn : s.size = 17 ∧ allOk s = true := ⟨hs, (allOk_iff s).2 h⟩
  refine ⟨mac_congr fun i hi => ?_, ?_⟩
  · unfold parseV soFar
    rw [if_pos hn, if_pos hi]
  · unfold parseE
    rw [if_neg (by omega), if_pos hn]

theorem nil6_one : nil6.all (·.oneCell') = true := by simp [Value.oneCell']

theorem build25 (W : World) : (zeroValue 25).run Try.prog W = .ok (.agg nil6) W := by kernel_rfl

set_option maxHeartbeats 1000000 in
theorem parse_17 (s : ByteArray) (w : World) (h : s.size = 17) : Calls Try.prog 9 #[.string s] w fun e w' => e = .returned (.tuple #[mac (parseV s), .int .i64 (parseE s)]) ∧ Below w.heap.size w w' := by
  obtain ⟨W, hW⟩ : ∃ W, W = (w.alloc (Obj.cells nil6 25)).alloc (Obj.cells nil6 25) := ⟨_, rfl⟩
  have hB : Below w.heap.size w W := by rw [hW]; exact ((Below.refl _ _).alloc (Nat.le_refl _) _).alloc (by simp) _
  have r0 : Blk W w.heap.size nil6 25 := by rw [hW]; exact (Blk.new _ _ _).alloc _
  have r1 : Blk W (w.heap.size + 1) nil6 25 := by
    rw [hW]
    have := Blk.new (w.alloc (Obj.cells nil6 25)) nil6 25
    rwa [show (w.alloc (Obj.cells nil6 25)).heap.size = w.heap.size + 1 by simp] at this
  have HW := Lib.hid hW
  clear hW
  have hl' : ¬ (17 : Int) < (s.size : Int) := by omega
  have hl'' : ¬ (s.size : Int) < 17 := by omega
  have HS := Lib.hid h
  have hi := Lib.hid size25
  have hone := Lib.hid nil6_one
  clear h
  go_enter Try.func9, Try.ntmps9
  go_wp2_with (fail)
  simp only [nil6] at HW
  rw [← HW.out]
  generalize hBe : w.heap.size = B at *
  have HB := Lib.hid hBe
  clear hBe HW
  go_loopw [5, 19] (fun _ i wr => ∃ k : Nat, k ≤ 6 ∧ i = .int .i64 (k : Int) ∧ (∀ j, j < k → okAt s j = true) ∧ Below B w wr ∧ Blk wr B nil6 25 ∧ Blk wr (B + 1) (macA (soFar s k)) 25) (fun _ i _ => 6 - (intOf i).toNat)
  case atStart => exact ⟨0, by omega, by simp, fun j hj => by omega, hB, r0, r1⟩
  case round =>
    obtain ⟨k, hk, rfl, hok, hb, h0, h1⟩ := hrel
    have OK := Lib.hid hok
    have R0 := Lib.hid h0
    clear hok h0 r0 r1 hB
    by_cases hlt : k < 6
    · obtain ⟨a, b, hab, ha, hb'⟩ := ext2 s (k * 3) (by have := HS.out; omega)
      have hn : (k * 3 + 2 : Int) ≤ s.size := by have := HS.out; omega
      have HA := Lib.hid hab
      have Ha := Lib.hid ha
      have Hb := Lib.hid hb'
      have hcell : wr.cell? ⟨B + 1, k, none⟩ = some (.int .u8 (soFar s k k : Nat)) := by rw [h1.cell]; exact mac_at _ _ hlt
      have hfree := h1.free k
      have R1 := Lib.hid h1
      clear hab ha hb' h1
      by_cases g : okAt s k = true
      · have g' := g
        unfold okAt at g'
        simp only [Bool.and_eq_true, Bool.or_eq_true, decide_eq_true_eq] at g'
        obtain ⟨⟨g1, g2⟩, g3⟩ := g'
        have G := Lib.hid g
        have G1 := Lib.hid g1
        have G2 := Lib.hid g2
        clear g g1 g2
        rcases (show k = 0 ∨ (0 < k ∧ atN s (k * 3 - 1) = 58) by omega) with c | ⟨c, d⟩
        · subst c
          clear g3
          go_wp2_with fail
          rw [show s.extract (0 * 3) (0 * 3 + 2) = ⟨#[a, b]⟩ from HA.out]
          refine (parseByte_yes a b _ ⟨by rw [Ha.out]; exact G1.out, by rw [Hb.out]; exact G2.out⟩).mono ?_
          rintro e w' ⟨rfl, rfl⟩
          rw [Ha.out, Hb.out]
          go_wp2_with fail
          go_roundw
          case rel =>
            refine ⟨1, by omega, by go_num, ?_, hb.setCell (by simp) _, ?_, ?_⟩
            · intro j hj
              rw [show j = 0 by omega]
              exact G.out
            · exact R0.out.other (by simp) _
            · rw [← soFar_step s 0 hlt]
              exact R1.out.set 0 _
          case measure => simp [intOf] <;> omega
        · have i1 : (1 : Int) ≤ (k : Int) * 3 := by omega
          have i2 : (k : Int) * 3 - 1 < (s.size : Int) := by omega
          have i3 : k * 3 - 1 < s.size := by omega
          have D : (((s[k * 3 - 1]'i3).toNat : Int) != 58) = false := by rw [at_get s _ i3, d]; rfl
          clear g3 d
          go_wp2_with fail
          rw [HA.out]
          refine (parseByte_yes a b _ ⟨by rw [Ha.out]; exact G1.out, by rw [Hb.out]; exact G2.out⟩).mono ?_
          rintro e w' ⟨rfl, rfl⟩
          rw [Ha.out, Hb.out]
          go_wp2_with fail
          go_roundw
          case rel =>
            refine ⟨k + 1, by omega, by go_num, ?_, hb.setCell (by simp) _, ?_, ?_⟩
            · intro j hj
              rcases (show j < k ∨ j = k by omega) with c | c
              · exact OK.out j c
              · rw [c]; exact G.out
            · exact R0.out.other (by simp) _
            · rw [← soFar_step s k hlt]
              exact R1.out.set k _
          case measure => simp [intOf] <;> omega
      · have G := Lib.hid (show okAt s k = false by simpa using g)
        obtain ⟨e1, e2⟩ := parse_bad s k hlt G.out HS.out
        have E1 := Lib.hid e1
        have E2 := Lib.hid e2
        have hend : ∀ wx, wx = wr.setRow B nil6 → Below w.heap.size w wx := fun wx hx => by rw [hx, HB.out]; exact below_setRow hb (Nat.le_refl _) _
        clear g e1 e2
        cases g1 : (hexOk (atN s (k * 3)) && hexOk (atN s (k * 3 + 1))) with
        | false =>
          have G1 := Lib.hid (show hexOk a.toNat = false ∨ hexOk b.toNat = false by
            rw [Ha.out, Hb.out]
            exact Bool.and_eq_false_iff.1 g1)
          clear g1
          go_wp2_with fail
          rw [HA.out]
          refine (parseByte_no a b _ G1.out).mono ?_
          rintro e w' ⟨rfl, rfl⟩
          go_wp2_with (refine wpList_store_row rfl 25 _ _ rfl B nil6 rfl rfl 25 nil6 R0.out hi.out rfl hone.out ?_)
          exact bodyPost_ret (v := .tuple #[.agg nil6, .int .i64 4]) (results_row_tmp Try.results9 _ _ B 25 nil6 _ _ rfl rfl (R0.out.row _) Try.underlying25 rfl hi.out) rfl ⟨by rw [E1.out, E2.out], hend _ rfl⟩
        | true =>
          simp only [Bool.and_eq_true] at g1
          obtain ⟨g1, g2⟩ := g1
          have hd : 0 < k ∧ atN s (k * 3 - 1) ≠ 58 := by
            have h := G.out
            unfold okAt at h
            rw [g1, g2] at h
            simp at h
            omega
          obtain ⟨c, d⟩ := hd
          have i1 : (1 : Int) ≤ (k : Int) * 3 := by omega
          have i2 : (k : Int) * 3 - 1 < (s.size : Int) := by omega
          have i3 : k * 3 - 1 < s.size := by omega
          have D : (((s[k * 3 - 1]'i3).toNat : Int) != 58) = true := by rw [at_get s _ i3]; simp; omega
          have G1 := Lib.hid g1
          have G2 := Lib.hid g2
          clear g1 g2 d
          go_wp2_with fail
          rw [HA.out]
          refine (parseByte_yes a b _ ⟨by rw [Ha.out]; exact G1.out, by rw [Hb.out]; exact G2.out⟩).mono ?_
          rintro e w' ⟨rfl, rfl⟩
          rw [Ha.out, Hb.out]
          go_wp2_with (refine wpList_store_row rfl 25 _ _ rfl B nil6 rfl rfl 25 nil6 R0.out hi.out rfl hone.out ?_)
          exact bodyPost_ret (v := .tuple #[.agg nil6, .int .i64 4]) (results_row_tmp Try.results9 _ _ B 25 nil6 _ _ rfl rfl (R0.out.row _) Try.underlying25 rfl hi.out) rfl ⟨by rw [E1.out, E2.out], hend _ rfl⟩
    · have hk' : k = 6 := by omega
      subst hk'
      obtain ⟨e1, e2⟩ := parse_good s OK.out HS.out
      have E1 := Lib.hid e1
      have E2 := Lib.hid e2
      have R1 := Lib.hid h1
      have hon := Lib.hid (macA_one (soFar s 6))
      clear e1 e2 h1
      go_wp2_with (first
        | (refine wpList_load_row rfl 25 _ rfl (B + 1) rfl 25 _ (0, 0) _ R1.out Try.underlying25 rfl hi.out ?_)
        | (refine wpList_store_row rfl 25 _ _ rfl B (macA (soFar s 6)) rfl rfl 25 nil6 R0.out hi.out rfl hon.out ?_))
      exact bodyPost_ret (v := .tuple #[mac (soFar s 6), .int .i64 0]) (results_row_tmp Try.results9 _ _ B 25 (macA (soFar s 6)) _ _ rfl rfl (R0.out.row _) Try.underlying25 rfl hi.out) rfl ⟨by rw [E1.out, E2.out], by rw [HB.out]; exact below_setRow hb (Nat.le_refl _) _⟩

theorem parse_size (s : ByteArray) (h : s.size ≠ 17) : mac (parseV s) = .agg nil6 ∧ parseE s = if 17 < s.size then 3 else 4 := by
  refine ⟨?_, ?_⟩
  · have : ∀ i, i < 6 → parseV s i = 0 := fun i _ => by unfold parseV; rw [if_neg (fun c => h c.1)]
    rw [mac_congr (g := fun _ => 0) this]
    rfl
  · unfold parseE
    by_cases c : 17 < s.size
    · rw [if_pos c, if_pos c]
    · rw [if_neg c, if_neg c, if_neg (fun c => h c.1)]

set_option maxHeartbeats 1000000 in
theorem parse_any (s : ByteArray) (w : World) : Calls Try.prog 9 #[.string s] w fun e w' => e = .returned (.tuple #[mac (parseV s), .int .i64 (parseE s)]) ∧ Below w.heap.size w w' := by
  by_cases h : s.size = 17
  · exact parse_17 s w h
  · obtain ⟨e1, e2⟩ := parse_size s h
    have E1 := Lib.hid e1
    have R0 := Lib.hid (Blk.new w nil6 25)
    have hi := Lib.hid size25
    have hone := Lib.hid nil6_one
    have hb : Below w.heap.size w ((w.alloc (.cells nil6 25)).setRow w.heap.size nil6) := below_setRow ((Below.refl _ _).alloc (Nat.le_refl _) _) (Nat.le_refl _) _
    have Rn := Lib.hid (R0.out.row nil6)
    by_cases c : 17 < s.size
    · have E2 := Lib.hid (show parseE s = 3 by rw [e2, if_pos c])
      have c' : (17 : Int) < (s.size : Int) := by omega
      clear h e1 e2
      go_enter Try.func9, Try.ntmps9
      go_wp2_with (refine wpList_store_row rfl 25 _ _ rfl w.heap.size nil6 rfl rfl 25 nil6 R0.out hi.out rfl hone.out ?_)
      exact bodyPost_ret (v := .tuple #[.agg nil6, .int .i64 3]) (results_row_tmp Try.results9 _ _ w.heap.size 25 nil6 _ _ rfl rfl Rn.out Try.underlying25 rfl hi.out) rfl ⟨by rw [E1.out, E2.out], hb⟩
    · have E2 := Lib.hid (show parseE s = 4 by rw [e2, if_neg c])
      have c' : ¬ (17 : Int) < (s.size : Int) := by omega
      have c'' : (s.size : Int) < 17 := by omega
      clear h e1 e2
      go_enter Try.func9, Try.ntmps9
      go_wp2_with (refine wpList_store_row rfl 25 _ _ rfl w.heap.size nil6 rfl rfl 25 nil6 R0.out hi.out rfl hone.out ?_)
      exact bodyPost_ret (v := .tuple #[.agg nil6, .int .i64 4]) (results_row_tmp Try.results9 _ _ w.heap.size 25 nil6 _ _ rfl rfl Rn.out Try.underlying25 rfl hi.out) rfl ⟨by rw [E1.out, E2.out], hb⟩

end Go.Proofs.Ytegmhjdddcbanaa
