/- AddrIDs, walked: for every two priorities and every two addresses it returns true. -/
import Derived.Test.YtegmhjdddcbanaaBack
import Derived.Test.YtegmhjdddcbanaaSpeaks3
import Derived.Test.YtegmhjdddcbanaaAddr
import Derived.Deep.RegionHeld3
import Derived.RegionTactic
namespace Go.Proofs.Ytegmhjdddcbanaa
open Go.RowKit

/-- The priorities and the two addresses in memory; and nothing that was there has changed. -/
structure Iq (w0 : World) (a c d p q : Nat) (m k : Nat → Nat) (w : World) : Prop where
  ka : Blk w a #[.int .u16 p, .int .u16 q] 41
  kc : Blk w c (macA m) 25
  kd : Blk w d (macA k) 25
  below : Below a w0 w

theorem Iq.next {w0 : World} {a c d p q : Nat} {m k : Nat → Nat} {w w' : World} (h : Iq w0 a c d p q m k w) (hb : Below w.heap.size w w') : Iq w0 a c d p q m k w' :=
  ⟨h.ka.below hb h.ka.lt, h.kc.below hb h.kc.lt, h.kd.below hb h.kd.lt, h.below.trans (hb.mono (Nat.le_of_lt h.ka.lt))⟩

theorem Iq.drew {w0 : World} {a c d p q : Nat} {m k : Nat → Nat} {w : World} (h : Iq w0 a c d p q m k w) : Iq w0 a c d p q m k w.drew :=
  ⟨h.ka.drew, h.kc.drew, h.kd.drew, h.below.drew⟩

theorem Iq.all {w0 : World} {a c d p q : Nat} {m k : Nat → Nat} {w : World} (h : Iq w0 a c d p q m k w) : w.cell? ⟨a, 0, none⟩ = some (.int .u16 (p : Nat)) ∧ w.cell? ⟨a, 1, none⟩ = some (.int .u16 (q : Nat)) ∧ w.cell? ⟨c, 0, none⟩ = some (.int .u8 (m 0 : Nat)) ∧ w.cell? ⟨c, 1, none⟩ = some (.int .u8 (m 1 : Nat)) ∧ w.cell? ⟨c, 2, none⟩ = some (.int .u8 (m 2 : Nat)) ∧ w.cell? ⟨c, 3, none⟩ = some (.int .u8 (m 3 : Nat)) ∧ w.cell? ⟨c, 4, none⟩ = some (.int .u8 (m 4 : Nat)) ∧ w.cell? ⟨c, 5, none⟩ = some (.int .u8 (m 5 : Nat)) ∧ w.cell? ⟨d, 0, none⟩ = some (.int .u8 (k 0 : Nat)) ∧ w.cell? ⟨d, 1, none⟩ = some (.int .u8 (k 1 : Nat)) ∧ w.cell? ⟨d, 2, none⟩ = some (.int .u8 (k 2 : Nat)) ∧ w.cell? ⟨d, 3, none⟩ = some (.int .u8 (k 3 : Nat)) ∧ w.cell? ⟨d, 4, none⟩ = some (.int .u8 (k 4 : Nat)) ∧ w.cell? ⟨d, 5, none⟩ = some (.int .u8 (k 5 : Nat)) ∧ Iq w0 a c d p q m k w :=
  ⟨h.ka.cell 0, h.ka.cell 1, h.kc.cell 0, h.kc.cell 1, h.kc.cell 2, h.kc.cell 3, h.kc.cell 4, h.kc.cell 5, h.kd.cell 0, h.kd.cell 1, h.kd.cell 2, h.kd.cell 3, h.kd.cell 4, h.kd.cell 5, h⟩

/-- .. and where they lie. -/
def Iv (w0 : World) (a p q : Nat) (m k : Nat → Nat) (s7 s8 : Value) (w : World) : Prop := ∃ c d, s7 = .pointer (some ⟨c, 0, none⟩) ∧ s8 = .pointer (some ⟨d, 0, none⟩) ∧ Iq w0 a c d p q m k w

theorem Iv.one {w0 w : World} {a p q : Nat} {m k : Nat → Nat} (h : Blk w a #[.int .u16 p, .int .u16 q] 41) (hb : Below a w0 w) :
    Iv w0 a p q m k (.pointer (some ⟨w.heap.size, 0, none⟩)) (.pointer (some ⟨w.heap.size + 1, 0, none⟩)) ((w.alloc (.cells (macA m) 25)).alloc (.cells (macA k) 25)).drew := by
  have hl := Nat.le_of_lt h.lt
  refine ⟨_, _, rfl, rfl, ((h.alloc _).alloc _).drew, ((Blk.new _ _ _).alloc _).drew, ?_, ((hb.alloc hl _).alloc (by simp; omega) _).drew⟩
  have := (Blk.new (w.alloc (.cells (macA m) 25)) (macA k) 25).drew
  rwa [show (w.alloc (.cells (macA m) 25)).heap.size = w.heap.size + 1 by simp] at this

theorem Iv.two {w0 w : World} {a p q : Nat} {m k : Nat → Nat} (h : Blk w a #[.int .u16 p, .int .u16 q] 41) (hb : Below a w0 w) :
    Iv w0 a p q m k (.pointer (some ⟨w.heap.size + 1, 0, none⟩)) (.pointer (some ⟨w.heap.size, 0, none⟩)) ((w.alloc (.cells (macA k) 25)).alloc (.cells (macA m) 25)).drew := by
  have hl := Nat.le_of_lt h.lt
  refine ⟨_, _, rfl, rfl, ((h.alloc _).alloc _).drew, ?_, ((Blk.new _ _ _).alloc _).drew, ((hb.alloc hl _).alloc (by simp; omega) _).drew⟩
  have := (Blk.new (w.alloc (.cells (macA k) 25)) (macA m) 25).drew
  rwa [show (w.alloc (.cells (macA k) 25)).heap.size = w.heap.size + 1 by simp] at this

theorem idN_pri (p x : Nat) (hx : x < 281474976710656) : idN p x / 281474976710656 = p := by unfold idN; omega
theorem idN_mac (p : Nat) (m : Nat → Nat) (hm : Six m) : mac (byteF (idN p (numF m 6))) = mac m := by
  have hx := numF_lt hm
  rw [← byteF_numF hm]
  apply mac_congr
  intro i hi
  have : ∀ j, j ≤ 5 → idN p (numF m 6) / 256 ^ j % 256 = numF m 6 / 256 ^ j % 256 := by
    intro j hj
    unfold idN
    match j, hj with
    | 0, _ => simp; omega
    | 1, _ => simp; omega
    | 2, _ => simp; omega
    | 3, _ => simp; omega
    | 4, _ => simp; omega
    | 5, _ => simp; omega
  exact this (5 - i) (by omega)

theorem eqMac_num (m k : Nat → Nat) (hm : Six m) (hk : Six k) : eqMac m k = decide (numF m 6 = numF k 6) := by
  rw [numF_lit, numF_lit]
  obtain ⟨h0, h1, h2, h3, h4, h5⟩ := hm
  obtain ⟨k0, k1, k2, k3, k4, k5⟩ := hk
  unfold eqMac
  rw [Bool.eq_iff_iff]
  simp
  constructor
  · rintro ⟨⟨⟨⟨⟨e0, e1⟩, e2⟩, e3⟩, e4⟩, e5⟩
    rw [e0, e1, e2, e3, e4, e5]
  · intro e
    omega

set_option maxRecDepth 100000 in
set_option maxHeartbeats 20000000 in
theorem ids_walk (p q : Nat) (m k : Nat → Nat) (w : World) (hp : p < 65536) (hq : q < 65536) (hm : Six m) (hk : Six k) :
    Calls Try.prog 5 #[.agg #[.int .u16 p, .int .u16 q], mac m, mac k] w fun e w' => e = .returned (.bool true) ∧ Below w.heap.size w w' := by
  obtain ⟨W, hW⟩ : ∃ W, W = ((w.alloc (Obj.cells #[.int .u16 p, .int .u16 q] 41)).alloc (Obj.cells (macA m) 22)).alloc (Obj.cells (macA k) 22) := ⟨_, rfl⟩
  have hB : Below w.heap.size w W := by rw [hW]; exact (((Below.refl _ _).alloc (Nat.le_refl _) _).alloc (by simp) _).alloc (by simp; omega) _
  have r0 : Blk W w.heap.size #[.int .u16 p, .int .u16 q] 41 := by rw [hW]; exact ((Blk.new _ _ _).alloc _).alloc _
  have r1 : Blk W (w.heap.size + 1) (macA m) 22 := by
    rw [hW]
    have := (Blk.new (w.alloc (Obj.cells #[.int .u16 p, .int .u16 q] 41)) (macA m) 22).alloc (Obj.cells (macA k) 22)
    rwa [show (w.alloc (Obj.cells #[.int .u16 p, .int .u16 q] 41)).heap.size = w.heap.size + 1 by simp] at this
  have r2 : Blk W (w.heap.size + 1 + 1) (macA k) 22 := by
    rw [hW]
    have := Blk.new ((w.alloc (Obj.cells #[.int .u16 p, .int .u16 q] 41)).alloc (Obj.cells (macA m) 22)) (macA k) 22
    rwa [show ((w.alloc (Obj.cells #[.int .u16 p, .int .u16 q] 41)).alloc (Obj.cells (macA m) 22)).heap.size = w.heap.size + 1 + 1 by simp] at this
  have HW := Lib.hid hW
  have H6 := Lib.hid hm
  have K6 := Lib.hid hk
  clear hW hm hk
  go_enter Try.func5, Try.ntmps5
  go_wp2_with fail
  simp only [macA] at HW
  rw [← HW.out]
  refine (speaks3_any W).mono ?_
  rintro e w1 ⟨rfl, hb1⟩
  have hB1 := hB.trans (hb1.mono hB.size)
  have q0 := r0.below hb1 r0.lt
  have q1 := r1.below hb1 r1.lt
  have q2 := r2.below hb1 r2.lt
  clear hB hb1 r0 r1 r2 HW
  generalize hae : w.heap.size = a at *
  have HA := Lib.hid hae
  clear hae
  have l1 := q1.lt
  have l2 := q2.lt
  have l0 := q0.lt
  generalize hb1e : a + 1 = b1 at *
  generalize hb2e : b1 + 1 = b2 at *
  have HB1e := Lib.hid hb1e
  have HB2e := Lib.hid hb2e
  clear hb1e hb2e
  obtain ⟨c0, c1, c2, c3, c4, c5⟩ := q1.six
  obtain ⟨d0, d1, d2, d3, d4, d5⟩ := q2.six
  have HB1 := Lib.hid hB1
  have Q0 := Lib.hid q0
  clear hB1 q0 q1 q2
  go_upto_region 3 with fail
  go_cut [7, 8] (fun s7 s8 wx => Iv w a p q m k s7 s8 wx)
  case first =>
    go_region
    · go_wp2_with fail
      go_meet
      exact Iv.one Q0.out HB1.out
    · go_wp2_with fail
      go_meet
      exact Iv.two Q0.out HB1.out
  case rest =>
    obtain ⟨c, d, rfl, rfl, iq⟩ := hcut
    have hiq := iq.drew.all
    have h6 := H6.out
    have k6 := K6.out
    obtain ⟨x, hx⟩ : ∃ x, x = numF m 6 := ⟨_, rfl⟩
    obtain ⟨y, hy⟩ : ∃ y, y = numF k 6 := ⟨_, rfl⟩
    have lx : x < 281474976710656 := by rw [hx]; exact numF_lt h6
    have ly : y < 281474976710656 := by rw [hy]; exact numF_lt k6
    obtain ⟨A, hA⟩ : ∃ A, A = idN p x := ⟨_, rfl⟩
    obtain ⟨D, hD⟩ : ∃ D, D = idN q y := ⟨_, rfl⟩
    have lA : A < 18446744073709551616 := by rw [hA]; exact idN_lt p x hp lx
    have lD : D < 18446744073709551616 := by rw [hD]; exact idN_lt q y hq ly
    have PA := Lib.hid (show A / 281474976710656 = p by rw [hA]; exact idN_pri p x lx)
    have MA := Lib.hid (show mac (byteF A) = mac m by rw [hA, hx]; exact idN_mac p m h6)
    have MD := Lib.hid (show mac (byteF D) = mac k by rw [hD, hy]; exact idN_mac q k k6)
    have hmk := eqMac_num m k h6 k6
    rw [← hx, ← hy] at hmk
    have X := Lib.hid hx.symm
    have Y := Lib.hid hy.symm
    have XA := Lib.hid hA.symm
    have XD := Lib.hid hD.symm
    have HMK := Lib.hid hmk
    unfold idN at hA hD
    have hcase : (p < q ∧ A < D ∧ ¬ p = q ∧ ¬ A = D) ∨ (p = q ∧ x < y ∧ A < D ∧ ¬ A = D) ∨ (p = q ∧ x = y ∧ ¬ A < D ∧ A = D) ∨ (p = q ∧ y < x ∧ ¬ A < D ∧ ¬ A = D) ∨ (q < p ∧ ¬ A < D ∧ ¬ p = q ∧ ¬ A = D) := by omega
    have HC := Lib.hid hcase
    clear c0 c1 c2 c3 c4 c5 d0 d1 d2 d3 d4 d5 l0 l1 l2 iq hA hD hx hy h6 k6 hmk hcase
    go_upto_region 4 with fail
    go_cut [9, 10] (fun s9 s10 wx => s9 = .int .u64 (A : Nat) ∧ s10 = .int .u64 (D : Nat) ∧ Iq w a c d p q m k wx)
    case first =>
      go_region_held3 (fun w' => w'.cell? ⟨a, 0, none⟩ = some (.int .u16 (p : Nat)) ∧ w'.cell? ⟨a, 1, none⟩ = some (.int .u16 (q : Nat)) ∧ w'.cell? ⟨c, 0, none⟩ = some (.int .u8 (m 0 : Nat)) ∧ w'.cell? ⟨c, 1, none⟩ = some (.int .u8 (m 1 : Nat)) ∧ w'.cell? ⟨c, 2, none⟩ = some (.int .u8 (m 2 : Nat)) ∧ w'.cell? ⟨c, 3, none⟩ = some (.int .u8 (m 3 : Nat)) ∧ w'.cell? ⟨c, 4, none⟩ = some (.int .u8 (m 4 : Nat)) ∧ w'.cell? ⟨c, 5, none⟩ = some (.int .u8 (m 5 : Nat)) ∧ w'.cell? ⟨d, 0, none⟩ = some (.int .u8 (k 0 : Nat)) ∧ w'.cell? ⟨d, 1, none⟩ = some (.int .u8 (k 1 : Nat)) ∧ w'.cell? ⟨d, 2, none⟩ = some (.int .u8 (k 2 : Nat)) ∧ w'.cell? ⟨d, 3, none⟩ = some (.int .u8 (k 3 : Nat)) ∧ w'.cell? ⟨d, 4, none⟩ = some (.int .u8 (k 4 : Nat)) ∧ w'.cell? ⟨d, 5, none⟩ = some (.int .u8 (k 5 : Nat)) ∧ Iq w a c d p q m k w')
        (first | (exact hiq) | (go_split_ands; exact (Iq.next (by assumption) hbx).all))
        (first
          | (go_at_call 20; (with_reducible refine (makeID_any p m _ hp H6.out).mono ?_); rintro e wx ⟨rfl, hbx⟩; rw [X.out, XA.out])
          | (go_at_call 20; (with_reducible refine (makeID_any q k _ hq K6.out).mono ?_); rintro e wx ⟨rfl, hbx⟩; rw [Y.out, XD.out]))
      go_split_ands
      go_wp2_with fail
      go_meet
      exact ⟨rfl, rfl, by assumption⟩
    case rest =>
      obtain ⟨rfl, rfl, iq2⟩ := hcut
      clear hiq
      have hiq := iq2.drew.all
      rcases HC.out with ⟨g1, g2, g3, g4⟩ | ⟨g1, g2, g3, g4⟩ | ⟨g1, g2, g3, g4⟩ | ⟨g1, g2, g3, g4⟩ | ⟨g1, g2, g3, g4⟩
      · have f1 : decide (p < q) = true := by simp; omega
        have f2 : decide (A < D) = true := by simp; omega
        have f3 : ((p : Int) == (q : Int)) = false := by simp; omega
        have f4 : ((A : Int) == (D : Int)) = false := by simp; omega
        have F5 : ∀ W, (Op.equalIn 10000 25 (mac m) (mac m)).run Try.prog W = .ok true W := fun W => by rw [equal_mac 9998 25 Try.underlying25, eqMac_self]
        have F6 : ∀ W, (Op.equalIn 10000 25 (mac k) (mac k)).run Try.prog W = .ok true W := fun W => by rw [equal_mac 9998 25 Try.underlying25, eqMac_self]
        clear g1 g2 g3 g4 HC
        go_wp2_with fail
        refine wp_region_held_drew (S := fun w' => w'.cell? ⟨a, 0, none⟩ = some (.int .u16 (p : Nat)) ∧ w'.cell? ⟨a, 1, none⟩ = some (.int .u16 (q : Nat)) ∧ w'.cell? ⟨c, 0, none⟩ = some (.int .u8 (m 0 : Nat)) ∧ w'.cell? ⟨c, 1, none⟩ = some (.int .u8 (m 1 : Nat)) ∧ w'.cell? ⟨c, 2, none⟩ = some (.int .u8 (m 2 : Nat)) ∧ w'.cell? ⟨c, 3, none⟩ = some (.int .u8 (m 3 : Nat)) ∧ w'.cell? ⟨c, 4, none⟩ = some (.int .u8 (m 4 : Nat)) ∧ w'.cell? ⟨c, 5, none⟩ = some (.int .u8 (m 5 : Nat)) ∧ w'.cell? ⟨d, 0, none⟩ = some (.int .u8 (k 0 : Nat)) ∧ w'.cell? ⟨d, 1, none⟩ = some (.int .u8 (k 1 : Nat)) ∧ w'.cell? ⟨d, 2, none⟩ = some (.int .u8 (k 2 : Nat)) ∧ w'.cell? ⟨d, 3, none⟩ = some (.int .u8 (k 3 : Nat)) ∧ w'.cell? ⟨d, 4, none⟩ = some (.int .u8 (k 4 : Nat)) ∧ w'.cell? ⟨d, 5, none⟩ = some (.int .u8 (k 5 : Nat)) ∧ Iq w a c d p q m k w') (by kernel_rfl) (by exact hiq) (fun hHeld => ?_)
        (refine wpAnyH_take (i := 0) (v := ?_) rfl (by kernel_rfl) (by kernel_rfl) (by kernel_rfl) (fun _ _ _ h => h) (Or.inl ⟨by rfl, ?_⟩) (by assumption) ?_; rotate_left; (· (intro w hSw; (try dsimp only at hSw); go_simp; try with_reducible rfl)); (try simp only [Act.put, List.getElem_toArray, List.getElem_cons_zero, List.setIfInBounds_toArray, List.set_cons_zero, List.set_cons_succ]))
        (refine wpAnyH_take (i := 2) (v := ?_) rfl (by kernel_rfl) (by kernel_rfl) (by kernel_rfl) (fun _ _ _ h => h) (Or.inl ⟨by rfl, ?_⟩) (by assumption) ?_; rotate_left; (· (intro w hSw; (try dsimp only at hSw); go_simp; try with_reducible rfl)); (try simp only [Act.put, List.getElem_toArray, List.getElem_cons_succ, List.getElem_cons_zero, List.setIfInBounds_toArray, List.set_cons_zero, List.set_cons_succ]))
        (refine wpAnyH_take (i := 3) (v := ?_) rfl (by kernel_rfl) (by kernel_rfl) (by kernel_rfl) (fun _ _ _ h => h) (Or.inl ⟨by rfl, ?_⟩) (by assumption) ?_; rotate_left; (· (intro w hSw; (try dsimp only at hSw); go_simp; try with_reducible rfl)); (try simp only [Act.put, List.getElem_toArray, List.getElem_cons_succ, List.getElem_cons_zero, List.setIfInBounds_toArray, List.set_cons_zero, List.set_cons_succ]))
        refine wpAnyH_ready (rs := [1]) (by kernel_rfl) (by simp) ?_
        refine AllReadyH.cons rfl (fun K hK => ?_) AllReadyH.nil
        go_simp
        refine (priority_any A _ lA).mono ?_
        rintro e wx ⟨rfl, rfl⟩
        rw [PA.out]
        go_wp2_with fail
        refine hK.out _ _ (by exact hiq) (fun hHeld => ?_)
        clear hK K
        (try simp only [Act.put, List.getElem_toArray, List.getElem_cons_succ, List.getElem_cons_zero, List.setIfInBounds_toArray, List.set_cons_zero, List.set_cons_succ])
        (refine wpAnyH_take (i := 4) (v := ?_) rfl (by kernel_rfl) (by kernel_rfl) (by kernel_rfl) (fun _ _ _ h => h) (Or.inl ⟨by rfl, ?_⟩) (by assumption) ?_; rotate_left; (· (intro w hSw; (try dsimp only at hSw); go_simp; try with_reducible rfl)); (try simp only [Act.put, List.getElem_toArray, List.getElem_cons_succ, List.getElem_cons_zero, List.setIfInBounds_toArray, List.set_cons_zero, List.set_cons_succ]))
        (refine wpAnyH_take (i := 5) (v := ?_) rfl (by kernel_rfl) (by kernel_rfl) (by kernel_rfl) (fun _ _ _ h => h) (Or.inl ⟨by rfl, ?_⟩) (by assumption) ?_; rotate_left; (· (intro w hSw; (try dsimp only at hSw); go_simp; try with_reducible rfl)); (try simp only [Act.put, List.getElem_toArray, List.getElem_cons_succ, List.getElem_cons_zero, List.setIfInBounds_toArray, List.set_cons_zero, List.set_cons_succ]))
        (refine wpAnyH_take (i := 6) (v := ?_) rfl (by kernel_rfl) (by kernel_rfl) (by kernel_rfl) (fun _ _ _ h => h) (Or.inl ⟨by rfl, ?_⟩) (by assumption) ?_; rotate_left; (· (intro w hSw; (try dsimp only at hSw); go_simp; try with_reducible rfl)); (try simp only [Act.put, List.getElem_toArray, List.getElem_cons_succ, List.getElem_cons_zero, List.setIfInBounds_toArray, List.set_cons_zero, List.set_cons_succ]))
        (refine wpAnyH_take (i := 8) (v := ?_) rfl (by kernel_rfl) (by kernel_rfl) (by kernel_rfl) (fun _ _ _ h => h) (Or.inl ⟨by rfl, ?_⟩) (by assumption) ?_; rotate_left; (· (intro w hSw; (try dsimp only at hSw); go_simp; try with_reducible rfl)); (try simp only [Act.put, List.getElem_toArray, List.getElem_cons_succ, List.getElem_cons_zero, List.setIfInBounds_toArray, List.set_cons_zero, List.set_cons_succ]))
        refine wpAnyH_ready (rs := [7]) (by kernel_rfl) (by simp) ?_
        refine AllReadyH.cons rfl (fun K hK => ?_) AllReadyH.nil
        go_simp
        refine (idmac_any A _).mono ?_
        rintro e wx ⟨rfl, hbx⟩
        rw [MA.out]
        go_wp2_with fail
        refine hK.out _ _ (Iq.next iq2.drew hbx).all (fun hHeld => ?_)
        clear hK K
        (try simp only [Act.put, List.getElem_toArray, List.getElem_cons_succ, List.getElem_cons_zero, List.setIfInBounds_toArray, List.set_cons_zero, List.set_cons_succ])
        (refine wpAnyH_take (i := 9) (v := ?_) rfl (by kernel_rfl) (by kernel_rfl) (by kernel_rfl) (fun _ _ _ h => h) (Or.inl ⟨by rfl, ?_⟩) (by assumption) ?_; rotate_left; (· (intro w hSw; (try dsimp only at hSw); go_simp; try with_reducible rfl)); (try simp only [Act.put, List.getElem_toArray, List.getElem_cons_succ, List.getElem_cons_zero, List.setIfInBounds_toArray, List.set_cons_zero, List.set_cons_succ]))
        (refine wpAnyH_take (i := 10) (v := ?_) rfl (by kernel_rfl) (by kernel_rfl) (by kernel_rfl) (fun _ _ _ h => h) (Or.inl ⟨by rfl, ?_⟩) (by assumption) ?_; rotate_left; (· (intro w hSw; (try dsimp only at hSw); go_simp; try with_reducible rfl)); (try simp only [Act.put, List.getElem_toArray, List.getElem_cons_succ, List.getElem_cons_zero, List.setIfInBounds_toArray, List.set_cons_zero, List.set_cons_succ]))
        (refine wpAnyH_take (i := 11) (v := ?_) rfl (by kernel_rfl) (by kernel_rfl) (by kernel_rfl) (fun _ _ _ h => h) (Or.inl ⟨by rfl, ?_⟩) (by assumption) ?_; rotate_left; (· (intro w hSw; (try dsimp only at hSw); go_simp; try with_reducible rfl)); (try simp only [Act.put, List.getElem_toArray, List.getElem_cons_succ, List.getElem_cons_zero, List.setIfInBounds_toArray, List.set_cons_zero, List.set_cons_succ]))
        (refine wpAnyH_take (i := 12) (v := ?_) rfl (by kernel_rfl) (by kernel_rfl) (by kernel_rfl) (fun _ _ _ h => h) (Or.inl ⟨by rfl, ?_⟩) (by assumption) ?_; rotate_left; (· (intro w hSw; (try dsimp only at hSw); go_simp; try with_reducible rfl)); (try simp only [Act.put, List.getElem_toArray, List.getElem_cons_succ, List.getElem_cons_zero, List.setIfInBounds_toArray, List.set_cons_zero, List.set_cons_succ]))
        (refine wpAnyH_take (i := 14) (v := ?_) rfl (by kernel_rfl) (by kernel_rfl) (by kernel_rfl) (fun _ _ _ h => h) (Or.inl ⟨by rfl, ?_⟩) (by assumption) ?_; rotate_left; (· (intro w hSw; (try dsimp only at hSw); go_simp; try with_reducible rfl)); (try simp only [Act.put, List.getElem_toArray, List.getElem_cons_succ, List.getElem_cons_zero, List.setIfInBounds_toArray, List.set_cons_zero, List.set_cons_succ]))
        refine wpAnyH_ready (rs := [13]) (by kernel_rfl) (by simp) ?_
        refine AllReadyH.cons rfl (fun K hK => ?_) AllReadyH.nil
        go_simp
        refine (idmac_any D _).mono ?_
        rintro e wx ⟨rfl, hby⟩
        rw [MD.out]
        go_wp2_with fail
        refine hK.out _ _ (Iq.next (Iq.next iq2.drew hbx) hby).all (fun hHeld => ?_)
        clear hK K
        (try simp only [Act.put, List.getElem_toArray, List.getElem_cons_succ, List.getElem_cons_zero, List.setIfInBounds_toArray, List.set_cons_zero, List.set_cons_succ])
        (refine wpAnyH_take (i := 15) (v := ?_) rfl (by kernel_rfl) (by kernel_rfl) (by kernel_rfl) (fun _ _ _ h => h) (Or.inl ⟨by rfl, ?_⟩) (by assumption) ?_; rotate_left; (· (intro w hSw; (try dsimp only at hSw); go_simp; try with_reducible rfl)); (try simp only [Act.put, List.getElem_toArray, List.getElem_cons_succ, List.getElem_cons_zero, List.setIfInBounds_toArray, List.set_cons_zero, List.set_cons_succ]))
        (refine wpAnyH_take (i := 16) (v := ?_) rfl (by kernel_rfl) (by kernel_rfl) (by kernel_rfl) (fun _ _ _ h => h) (Or.inl ⟨by rfl, ?_⟩) (by assumption) ?_; rotate_left; (· (intro w hSw; (try dsimp only at hSw); go_simp; try with_reducible rfl)); (try simp only [Act.put, List.getElem_toArray, List.getElem_cons_succ, List.getElem_cons_zero, List.setIfInBounds_toArray, List.set_cons_zero, List.set_cons_succ]))
        (refine wpAnyH_take (i := 17) (v := ?_) rfl (by kernel_rfl) (by kernel_rfl) (by kernel_rfl) (fun _ _ _ h => h) (Or.inl ⟨by rfl, ?_⟩) (by assumption) ?_; rotate_left; (· (intro w hSw; (try dsimp only at hSw); go_simp; try with_reducible rfl)); (try simp only [Act.put, List.getElem_toArray, List.getElem_cons_succ, List.getElem_cons_zero, List.setIfInBounds_toArray, List.set_cons_zero, List.set_cons_succ]))
        (refine wpAnyH_take (i := 18) (v := ?_) rfl (by kernel_rfl) (by kernel_rfl) (by kernel_rfl) (fun _ _ _ h => h) (Or.inl ⟨by rfl, ?_⟩) (by assumption) ?_; rotate_left; (· (intro w hSw; (try dsimp only at hSw); go_simp; try with_reducible rfl)); (try simp only [Act.put, List.getElem_toArray, List.getElem_cons_succ, List.getElem_cons_zero, List.setIfInBounds_toArray, List.set_cons_zero, List.set_cons_succ]))
        (refine wpAnyH_take (i := 19) (v := ?_) rfl (by kernel_rfl) (by kernel_rfl) (by kernel_rfl) (fun _ _ _ h => h) (Or.inl ⟨by rfl, ?_⟩) (by assumption) ?_; rotate_left; (· (intro w hSw; (try dsimp only at hSw); go_simp; try with_reducible rfl)); (try simp only [Act.put, List.getElem_toArray, List.getElem_cons_succ, List.getElem_cons_zero, List.setIfInBounds_toArray, List.set_cons_zero, List.set_cons_succ]))
        (refine wpAnyH_take (i := 20) (v := ?_) rfl (by kernel_rfl) (by kernel_rfl) (by kernel_rfl) (fun _ _ _ h => h) (Or.inl ⟨by rfl, ?_⟩) (by assumption) ?_; rotate_left; (· (intro w hSw; (try dsimp only at hSw); go_simp; try with_reducible rfl)); (try simp only [Act.put, List.getElem_toArray, List.getElem_cons_succ, List.getElem_cons_zero, List.setIfInBounds_toArray, List.set_cons_zero, List.set_cons_succ]))
        (refine wpAnyH_take (i := 21) (v := ?_) rfl (by kernel_rfl) (by kernel_rfl) (by kernel_rfl) (fun _ _ _ h => h) (Or.inl ⟨by rfl, ?_⟩) (by assumption) ?_; rotate_left; (· (intro w hSw; (try dsimp only at hSw); go_simp; try with_reducible rfl)); (try simp only [Act.put, List.getElem_toArray, List.getElem_cons_succ, List.getElem_cons_zero, List.setIfInBounds_toArray, List.set_cons_zero, List.set_cons_succ]))
        (refine wpAnyH_take (i := 22) (v := ?_) rfl (by kernel_rfl) (by kernel_rfl) (by kernel_rfl) (fun _ _ _ h => h) (Or.inl ⟨by rfl, ?_⟩) (by assumption) ?_; rotate_left; (· (intro w hSw; (try dsimp only at hSw); go_simp; try with_reducible rfl)); (try simp only [Act.put, List.getElem_toArray, List.getElem_cons_succ, List.getElem_cons_zero, List.setIfInBounds_toArray, List.set_cons_zero, List.set_cons_succ]))
        (refine wpAnyH_take (i := 23) (v := ?_) rfl (by kernel_rfl) (by kernel_rfl) (by kernel_rfl) (fun _ _ _ h => h) (Or.inl ⟨by rfl, ?_⟩) (by assumption) ?_; rotate_left; (· (intro w hSw; (try dsimp only at hSw); go_simp; try with_reducible rfl)); (try simp only [Act.put, List.getElem_toArray, List.getElem_cons_succ, List.getElem_cons_zero, List.setIfInBounds_toArray, List.set_cons_zero, List.set_cons_succ]))
        (refine wpAnyH_take (i := 24) (v := ?_) rfl (by kernel_rfl) (by kernel_rfl) (by kernel_rfl) (fun _ _ _ h => h) (Or.inl ⟨by rfl, ?_⟩) (by assumption) ?_; rotate_left; (· (intro w hSw; (try dsimp only at hSw); go_simp; try with_reducible rfl)); (try simp only [Act.put, List.getElem_toArray, List.getElem_cons_succ, List.getElem_cons_zero, List.setIfInBounds_toArray, List.set_cons_zero, List.set_cons_succ]))
        (refine wpAnyH_take (i := 25) (v := ?_) rfl (by kernel_rfl) (by kernel_rfl) (by kernel_rfl) (fun _ _ _ h => h) (Or.inl ⟨by rfl, ?_⟩) (by assumption) ?_; rotate_left; (· (intro w hSw; (try dsimp only at hSw); go_simp; try with_reducible rfl)); (try simp only [Act.put, List.getElem_toArray, List.getElem_cons_succ, List.getElem_cons_zero, List.setIfInBounds_toArray, List.set_cons_zero, List.set_cons_succ]))
        (refine wpAnyH_take (i := 26) (v := ?_) rfl (by kernel_rfl) (by kernel_rfl) (by kernel_rfl) (fun _ _ _ h => h) (Or.inl ⟨by rfl, ?_⟩) (by assumption) ?_; rotate_left; (· (intro w hSw; (try dsimp only at hSw); go_simp; try with_reducible rfl)); (try simp only [Act.put, List.getElem_toArray, List.getElem_cons_succ, List.getElem_cons_zero, List.setIfInBounds_toArray, List.set_cons_zero, List.set_cons_succ]))
        (refine wpAnyH_take (i := 27) (v := undef) rfl (by kernel_rfl) (by kernel_rfl) (by kernel_rfl) (fun _ _ _ h => h) (Or.inr ⟨by rfl, rfl⟩) (by assumption) ?_; (try simp only [Act.put, List.getElem_toArray, List.getElem_cons_succ, List.getElem_cons_zero, List.setIfInBounds_toArray, List.set_cons_zero, List.set_cons_succ]))
        (refine wpAnyH_take (i := 28) (v := undef) rfl (by kernel_rfl) (by kernel_rfl) (by kernel_rfl) (fun _ _ _ h => h) (Or.inr ⟨by rfl, rfl⟩) (by assumption) ?_; (try simp only [Act.put, List.getElem_toArray, List.getElem_cons_succ, List.getElem_cons_zero, List.setIfInBounds_toArray, List.set_cons_zero, List.set_cons_succ]))
        (refine wpAnyH_take (i := 29) (v := undef) rfl (by kernel_rfl) (by kernel_rfl) (by kernel_rfl) (fun _ _ _ h => h) (Or.inr ⟨by rfl, rfl⟩) (by assumption) ?_; (try simp only [Act.put, List.getElem_toArray, List.getElem_cons_succ, List.getElem_cons_zero, List.setIfInBounds_toArray, List.set_cons_zero, List.set_cons_succ]))
        (refine wpAnyH_take (i := 30) (v := undef) rfl (by kernel_rfl) (by kernel_rfl) (by kernel_rfl) (fun _ _ _ h => h) (Or.inr ⟨by rfl, rfl⟩) (by assumption) ?_; (try simp only [Act.put, List.getElem_toArray, List.getElem_cons_succ, List.getElem_cons_zero, List.setIfInBounds_toArray, List.set_cons_zero, List.set_cons_succ]))
        (refine wpAnyH_take (i := 31) (v := undef) rfl (by kernel_rfl) (by kernel_rfl) (by kernel_rfl) (fun _ _ _ h => h) (Or.inr ⟨by rfl, rfl⟩) (by assumption) ?_; (try simp only [Act.put, List.getElem_toArray, List.getElem_cons_succ, List.getElem_cons_zero, List.setIfInBounds_toArray, List.set_cons_zero, List.set_cons_succ]))
        (refine wpAnyH_take (i := 32) (v := undef) rfl (by kernel_rfl) (by kernel_rfl) (by kernel_rfl) (fun _ _ _ h => h) (Or.inr ⟨by rfl, rfl⟩) (by assumption) ?_; (try simp only [Act.put, List.getElem_toArray, List.getElem_cons_succ, List.getElem_cons_zero, List.setIfInBounds_toArray, List.set_cons_zero, List.set_cons_succ]))
        (refine wpAnyH_take (i := 33) (v := undef) rfl (by kernel_rfl) (by kernel_rfl) (by kernel_rfl) (fun _ _ _ h => h) (Or.inr ⟨by rfl, rfl⟩) (by assumption) ?_; (try simp only [Act.put, List.getElem_toArray, List.getElem_cons_succ, List.getElem_cons_zero, List.setIfInBounds_toArray, List.set_cons_zero, List.set_cons_succ]))
        (refine wpAnyH_take (i := 34) (v := undef) rfl (by kernel_rfl) (by kernel_rfl) (by kernel_rfl) (fun _ _ _ h => h) (Or.inr ⟨by rfl, rfl⟩) (by assumption) ?_; (try simp only [Act.put, List.getElem_toArray, List.getElem_cons_succ, List.getElem_cons_zero, List.setIfInBounds_toArray, List.set_cons_zero, List.set_cons_succ]))
        (refine wpAnyH_take (i := 35) (v := undef) rfl (by kernel_rfl) (by kernel_rfl) (by kernel_rfl) (fun _ _ _ h => h) (Or.inr ⟨by rfl, rfl⟩) (by assumption) ?_; (try simp only [Act.put, List.getElem_toArray, List.getElem_cons_succ, List.getElem_cons_zero, List.setIfInBounds_toArray, List.set_cons_zero, List.set_cons_succ]))
        (refine wpAnyH_take (i := 36) (v := undef) rfl (by kernel_rfl) (by kernel_rfl) (by kernel_rfl) (fun _ _ _ h => h) (Or.inr ⟨by rfl, rfl⟩) (by assumption) ?_; (try simp only [Act.put, List.getElem_toArray, List.getElem_cons_succ, List.getElem_cons_zero, List.setIfInBounds_toArray, List.set_cons_zero, List.set_cons_succ]))
        (refine wpAnyH_take (i := 37) (v := undef) rfl (by kernel_rfl) (by kernel_rfl) (by kernel_rfl) (fun _ _ _ h => h) (Or.inr ⟨by rfl, rfl⟩) (by assumption) ?_; (try simp only [Act.put, List.getElem_toArray, List.getElem_cons_succ, List.getElem_cons_zero, List.setIfInBounds_toArray, List.set_cons_zero, List.set_cons_succ]))
        (refine wpAnyH_take (i := 38) (v := undef) rfl (by kernel_rfl) (by kernel_rfl) (by kernel_rfl) (fun _ _ _ h => h) (Or.inr ⟨by rfl, rfl⟩) (by assumption) ?_; (try simp only [Act.put, List.getElem_toArray, List.getElem_cons_succ, List.getElem_cons_zero, List.setIfInBounds_toArray, List.set_cons_zero, List.set_cons_succ]))
        (refine wpAnyH_take (i := 39) (v := ?_) rfl (by kernel_rfl) (by kernel_rfl) (by kernel_rfl) (fun _ _ _ h => h) (Or.inl ⟨by rfl, ?_⟩) (by assumption) ?_; rotate_left; (· (intro w hSw; (try dsimp only at hSw); go_simp; try with_reducible rfl)); (try simp only [Act.put, List.getElem_toArray, List.getElem_cons_succ, List.getElem_cons_zero, List.setIfInBounds_toArray, List.set_cons_zero, List.set_cons_succ]))
        (refine wpAnyH_take (i := 40) (v := ?_) rfl (by kernel_rfl) (by kernel_rfl) (by kernel_rfl) (fun _ _ _ h => h) (Or.inl ⟨by rfl, ?_⟩) (by assumption) ?_; rotate_left; (· (intro w hSw; (try dsimp only at hSw); go_simp; try with_reducible rfl)); (try simp only [Act.put, List.getElem_toArray, List.getElem_cons_succ, List.getElem_cons_zero, List.setIfInBounds_toArray, List.set_cons_zero, List.set_cons_succ]))
        (refine wpAnyH_take (i := 41) (v := ?_) rfl (by kernel_rfl) (by kernel_rfl) (by kernel_rfl) (fun _ _ _ h => h) (Or.inl ⟨by rfl, ?_⟩) (by assumption) ?_; rotate_left; (· (intro w hSw; (try dsimp only at hSw); go_simp; try with_reducible rfl)); (try simp only [Act.put, List.getElem_toArray, List.getElem_cons_succ, List.getElem_cons_zero, List.setIfInBounds_toArray, List.set_cons_zero, List.set_cons_succ]))
        (refine wpAnyH_take (i := 42) (v := ?_) rfl (by kernel_rfl) (by kernel_rfl) (by kernel_rfl) (fun _ _ _ h => h) (Or.inl ⟨by rfl, ?_⟩) (by assumption) ?_; rotate_left; (· (intro w hSw; (try dsimp only at hSw); go_simp; try with_reducible rfl)); (try simp only [Act.put, List.getElem_toArray, List.getElem_cons_succ, List.getElem_cons_zero, List.setIfInBounds_toArray, List.set_cons_zero, List.set_cons_succ]))
        (refine wpAnyH_take (i := 43) (v := ?_) rfl (by kernel_rfl) (by kernel_rfl) (by kernel_rfl) (fun _ _ _ h => h) (Or.inl ⟨by rfl, ?_⟩) (by assumption) ?_; rotate_left; (· (intro w hSw; (try dsimp only at hSw); go_simp; try with_reducible rfl)); (try simp only [Act.put, List.getElem_toArray, List.getElem_cons_succ, List.getElem_cons_zero, List.setIfInBounds_toArray, List.set_cons_zero, List.set_cons_succ]))
        (refine wpAnyH_take (i := 44) (v := ?_) rfl (by kernel_rfl) (by kernel_rfl) (by kernel_rfl) (fun _ _ _ h => h) (Or.inl ⟨by rfl, ?_⟩) (by assumption) ?_; rotate_left; (· (intro w hSw; (try dsimp only at hSw); go_simp; try with_reducible rfl)); (try simp only [Act.put, List.getElem_toArray, List.getElem_cons_succ, List.getElem_cons_zero, List.setIfInBounds_toArray, List.set_cons_zero, List.set_cons_succ]))
        (refine wpAnyH_take (i := 45) (v := ?_) rfl (by kernel_rfl) (by kernel_rfl) (by kernel_rfl) (fun _ _ _ h => h) (Or.inl ⟨by rfl, ?_⟩) (by assumption) ?_; rotate_left; (· (intro w hSw; (try dsimp only at hSw); go_simp; try with_reducible rfl)); (try simp only [Act.put, List.getElem_toArray, List.getElem_cons_succ, List.getElem_cons_zero, List.setIfInBounds_toArray, List.set_cons_zero, List.set_cons_succ]))
        (refine wpAnyH_take (i := 46) (v := ?_) rfl (by kernel_rfl) (by kernel_rfl) (by kernel_rfl) (fun _ _ _ h => h) (Or.inl ⟨by rfl, ?_⟩) (by assumption) ?_; rotate_left; (· (intro w hSw; (try dsimp only at hSw); go_simp; try with_reducible rfl)); (try simp only [Act.put, List.getElem_toArray, List.getElem_cons_succ, List.getElem_cons_zero, List.setIfInBounds_toArray, List.set_cons_zero, List.set_cons_succ]))
        (refine wpAnyH_take (i := 47) (v := ?_) rfl (by kernel_rfl) (by kernel_rfl) (by kernel_rfl) (fun _ _ _ h => h) (Or.inl ⟨by rfl, ?_⟩) (by assumption) ?_; rotate_left; (· (intro w hSw; (try dsimp only at hSw); go_simp; try with_reducible rfl)); (try simp only [Act.put, List.getElem_toArray, List.getElem_cons_succ, List.getElem_cons_zero, List.setIfInBounds_toArray, List.set_cons_zero, List.set_cons_succ]))
        (refine wpAnyH_take (i := 48) (v := ?_) rfl (by kernel_rfl) (by kernel_rfl) (by kernel_rfl) (fun _ _ _ h => h) (Or.inl ⟨by rfl, ?_⟩) (by assumption) ?_; rotate_left; (· (intro w hSw; (try dsimp only at hSw); go_simp; try with_reducible rfl)); (try simp only [Act.put, List.getElem_toArray, List.getElem_cons_succ, List.getElem_cons_zero, List.setIfInBounds_toArray, List.set_cons_zero, List.set_cons_succ]))
        (refine wpAnyH_take (i := 49) (v := ?_) rfl (by kernel_rfl) (by kernel_rfl) (by kernel_rfl) (fun _ _ _ h => h) (Or.inl ⟨by rfl, ?_⟩) (by assumption) ?_; rotate_left; (· (intro w hSw; (try dsimp only at hSw); go_simp; try with_reducible rfl)); (try simp only [Act.put, List.getElem_toArray, List.getElem_cons_succ, List.getElem_cons_zero, List.setIfInBounds_toArray, List.set_cons_zero, List.set_cons_succ]))
        (refine wpAnyH_take (i := 50) (v := ?_) rfl (by kernel_rfl) (by kernel_rfl) (by kernel_rfl) (fun _ _ _ h => h) (Or.inl ⟨by rfl, ?_⟩) (by assumption) ?_; rotate_left; (· (intro w hSw; (try dsimp only at hSw); go_simp; try with_reducible rfl)); (try simp only [Act.put, List.getElem_toArray, List.getElem_cons_succ, List.getElem_cons_zero, List.setIfInBounds_toArray, List.set_cons_zero, List.set_cons_succ]))
        (refine wpAnyH_take (i := 51) (v := ?_) rfl (by kernel_rfl) (by kernel_rfl) (by kernel_rfl) (fun _ _ _ h => h) (Or.inl ⟨by rfl, ?_⟩) (by assumption) ?_; rotate_left; (· (intro w hSw; (try dsimp only at hSw); go_simp; try with_reducible rfl)); (try simp only [Act.put, List.getElem_toArray, List.getElem_cons_succ, List.getElem_cons_zero, List.setIfInBounds_toArray, List.set_cons_zero, List.set_cons_succ]))
        (refine wpAnyH_take (i := 52) (v := undef) rfl (by kernel_rfl) (by kernel_rfl) (by kernel_rfl) (fun _ _ _ h => h) (Or.inr ⟨by rfl, rfl⟩) (by assumption) ?_; (try simp only [Act.put, List.getElem_toArray, List.getElem_cons_succ, List.getElem_cons_zero, List.setIfInBounds_toArray, List.set_cons_zero, List.set_cons_succ]))
        (refine wpAnyH_take (i := 53) (v := undef) rfl (by kernel_rfl) (by kernel_rfl) (by kernel_rfl) (fun _ _ _ h => h) (Or.inr ⟨by rfl, rfl⟩) (by assumption) ?_; (try simp only [Act.put, List.getElem_toArray, List.getElem_cons_succ, List.getElem_cons_zero, List.setIfInBounds_toArray, List.set_cons_zero, List.set_cons_succ]))
        (refine wpAnyH_take (i := 54) (v := undef) rfl (by kernel_rfl) (by kernel_rfl) (by kernel_rfl) (fun _ _ _ h => h) (Or.inr ⟨by rfl, rfl⟩) (by assumption) ?_; (try simp only [Act.put, List.getElem_toArray, List.getElem_cons_succ, List.getElem_cons_zero, List.setIfInBounds_toArray, List.set_cons_zero, List.set_cons_succ]))
        (refine wpAnyH_take (i := 55) (v := ?_) rfl (by kernel_rfl) (by kernel_rfl) (by kernel_rfl) (fun _ _ _ h => h) (Or.inl ⟨by rfl, ?_⟩) (by assumption) ?_; rotate_left; (· (intro w hSw; (try dsimp only at hSw); go_simp; try with_reducible rfl)); (try simp only [Act.put, List.getElem_toArray, List.getElem_cons_succ, List.getElem_cons_zero, List.setIfInBounds_toArray, List.set_cons_zero, List.set_cons_succ]))
        (refine wpAnyH_take (i := 56) (v := ?_) rfl (by kernel_rfl) (by kernel_rfl) (by kernel_rfl) (fun _ _ _ h => h) (Or.inl ⟨by rfl, ?_⟩) (by assumption) ?_; rotate_left; (· (intro w hSw; (try dsimp only at hSw); go_simp; try with_reducible rfl)); (try simp only [Act.put, List.getElem_toArray, List.getElem_cons_succ, List.getElem_cons_zero, List.setIfInBounds_toArray, List.set_cons_zero, List.set_cons_succ]))
        (refine wpAnyH_take (i := 57) (v := ?_) rfl (by kernel_rfl) (by kernel_rfl) (by kernel_rfl) (fun _ _ _ h => h) (Or.inl ⟨by rfl, ?_⟩) (by assumption) ?_; rotate_left; (· (intro w hSw; (try dsimp only at hSw); go_simp; try with_reducible rfl)); (try simp only [Act.put, List.getElem_toArray, List.getElem_cons_succ, List.getElem_cons_zero, List.setIfInBounds_toArray, List.set_cons_zero, List.set_cons_succ]))
        (refine wpAnyH_take (i := 58) (v := ?_) rfl (by kernel_rfl) (by kernel_rfl) (by kernel_rfl) (fun _ _ _ h => h) (Or.inl ⟨by rfl, ?_⟩) (by assumption) ?_; rotate_left; (· (intro w hSw; (try dsimp only at hSw); go_simp; try with_reducible rfl)); (try simp only [Act.put, List.getElem_toArray, List.getElem_cons_succ, List.getElem_cons_zero, List.setIfInBounds_toArray, List.set_cons_zero, List.set_cons_succ]))
        refine wpAnyH_done (by kernel_rfl) ?_ _
        have hend := (Iq.next (Iq.next iq2.drew hbx) hby).below
        go_wp2
        go_ret
        exact ⟨rfl, by rw [HA.out]; exact hend⟩
      · subst g1
        have f6 : decide (x < y) = true := by simp; omega
        have f2 : decide (A < D) = true := by simp; omega
        have f4 : ((A : Int) == (D : Int)) = false := by simp; omega
        have f7 : ∀ W, (Op.equalIn 10000 25 (mac m) (mac k)).run Try.prog W = .ok false W := fun W => by rw [equal_mac 9998 25 Try.underlying25, HMK.out]; congr 1; simp; omega
        have F5 : ∀ W, (Op.equalIn 10000 25 (mac m) (mac m)).run Try.prog W = .ok true W := fun W => by rw [equal_mac 9998 25 Try.underlying25, eqMac_self]
        have F6 : ∀ W, (Op.equalIn 10000 25 (mac k) (mac k)).run Try.prog W = .ok true W := fun W => by rw [equal_mac 9998 25 Try.underlying25, eqMac_self]
        clear g2 g3 g4 HC
        go_wp2_with fail
        go_region_held3 (fun w' => w'.cell? ⟨a, 0, none⟩ = some (.int .u16 (p : Nat)) ∧ w'.cell? ⟨a, 1, none⟩ = some (.int .u16 (p : Nat)) ∧ w'.cell? ⟨c, 0, none⟩ = some (.int .u8 (m 0 : Nat)) ∧ w'.cell? ⟨c, 1, none⟩ = some (.int .u8 (m 1 : Nat)) ∧ w'.cell? ⟨c, 2, none⟩ = some (.int .u8 (m 2 : Nat)) ∧ w'.cell? ⟨c, 3, none⟩ = some (.int .u8 (m 3 : Nat)) ∧ w'.cell? ⟨c, 4, none⟩ = some (.int .u8 (m 4 : Nat)) ∧ w'.cell? ⟨c, 5, none⟩ = some (.int .u8 (m 5 : Nat)) ∧ w'.cell? ⟨d, 0, none⟩ = some (.int .u8 (k 0 : Nat)) ∧ w'.cell? ⟨d, 1, none⟩ = some (.int .u8 (k 1 : Nat)) ∧ w'.cell? ⟨d, 2, none⟩ = some (.int .u8 (k 2 : Nat)) ∧ w'.cell? ⟨d, 3, none⟩ = some (.int .u8 (k 3 : Nat)) ∧ w'.cell? ⟨d, 4, none⟩ = some (.int .u8 (k 4 : Nat)) ∧ w'.cell? ⟨d, 5, none⟩ = some (.int .u8 (k 5 : Nat)) ∧ Iq w a c d p p m k w')
          (first | (exact hiq) | (go_split_ands; exact (Iq.next (by assumption) hbx).all))
          (first
            | (go_at_call 21; (with_reducible refine (priority_any A _ lA).mono ?_); rintro e wx ⟨rfl, rfl⟩; rw [PA.out])
            | (go_at_call 22; (with_reducible refine (idmac_any A _).mono ?_); rintro e wx ⟨rfl, hbx⟩; rw [MA.out])
            | (go_at_call 22; (with_reducible refine (idmac_any D _).mono ?_); rintro e wx ⟨rfl, hbx⟩; rw [MD.out])
            | (go_at_call 11; (with_reducible refine (int_any m _ H6.out).mono ?_); rintro e wx ⟨rfl, hbx⟩; rw [X.out])
            | (go_at_call 11; (with_reducible refine (int_any k _ K6.out).mono ?_); rintro e wx ⟨rfl, hbx⟩; rw [Y.out]))
        all_goals
          go_split_ands
          go_wp2
          go_ret
          exact ⟨rfl, by rw [HA.out]; exact (show Iq w a c d p p m k wx by assumption).below⟩
      · subst g1
        have f6 : decide (x < y) = false := by simp; omega
        have f2 : decide (A < D) = false := by simp; omega
        have f4 : ((A : Int) == (D : Int)) = true := by simp; omega
        have f7 : ∀ W, (Op.equalIn 10000 25 (mac m) (mac k)).run Try.prog W = .ok true W := fun W => by rw [equal_mac 9998 25 Try.underlying25, HMK.out]; congr 1; simp; omega
        have F5 : ∀ W, (Op.equalIn 10000 25 (mac m) (mac m)).run Try.prog W = .ok true W := fun W => by rw [equal_mac 9998 25 Try.underlying25, eqMac_self]
        have F6 : ∀ W, (Op.equalIn 10000 25 (mac k) (mac k)).run Try.prog W = .ok true W := fun W => by rw [equal_mac 9998 25 Try.underlying25, eqMac_self]
        clear g2 g3 g4 HC
        go_wp2_with fail
        go_region_held3 (fun w' => w'.cell? ⟨a, 0, none⟩ = some (.int .u16 (p : Nat)) ∧ w'.cell? ⟨a, 1, none⟩ = some (.int .u16 (p : Nat)) ∧ w'.cell? ⟨c, 0, none⟩ = some (.int .u8 (m 0 : Nat)) ∧ w'.cell? ⟨c, 1, none⟩ = some (.int .u8 (m 1 : Nat)) ∧ w'.cell? ⟨c, 2, none⟩ = some (.int .u8 (m 2 : Nat)) ∧ w'.cell? ⟨c, 3, none⟩ = some (.int .u8 (m 3 : Nat)) ∧ w'.cell? ⟨c, 4, none⟩ = some (.int .u8 (m 4 : Nat)) ∧ w'.cell? ⟨c, 5, none⟩ = some (.int .u8 (m 5 : Nat)) ∧ w'.cell? ⟨d, 0, none⟩ = some (.int .u8 (k 0 : Nat)) ∧ w'.cell? ⟨d, 1, none⟩ = some (.int .u8 (k 1 : Nat)) ∧ w'.cell? ⟨d, 2, none⟩ = some (.int .u8 (k 2 : Nat)) ∧ w'.cell? ⟨d, 3, none⟩ = some (.int .u8 (k 3 : Nat)) ∧ w'.cell? ⟨d, 4, none⟩ = some (.int .u8 (k 4 : Nat)) ∧ w'.cell? ⟨d, 5, none⟩ = some (.int .u8 (k 5 : Nat)) ∧ Iq w a c d p p m k w')
          (first | (exact hiq) | (go_split_ands; exact (Iq.next (by assumption) hbx).all))
          (first
            | (go_at_call 21; (with_reducible refine (priority_any A _ lA).mono ?_); rintro e wx ⟨rfl, rfl⟩; rw [PA.out])
            | (go_at_call 22; (with_reducible refine (idmac_any A _).mono ?_); rintro e wx ⟨rfl, hbx⟩; rw [MA.out])
            | (go_at_call 22; (with_reducible refine (idmac_any D _).mono ?_); rintro e wx ⟨rfl, hbx⟩; rw [MD.out])
            | (go_at_call 11; (with_reducible refine (int_any m _ H6.out).mono ?_); rintro e wx ⟨rfl, hbx⟩; rw [X.out])
            | (go_at_call 11; (with_reducible refine (int_any k _ K6.out).mono ?_); rintro e wx ⟨rfl, hbx⟩; rw [Y.out]))
        all_goals
          go_split_ands
          go_wp2
          go_ret
          exact ⟨rfl, by rw [HA.out]; exact (show Iq w a c d p p m k wx by assumption).below⟩
      · subst g1
        have f6 : decide (x < y) = false := by simp; omega
        have f2 : decide (A < D) = false := by simp; omega
        have f4 : ((A : Int) == (D : Int)) = false := by simp; omega
        have f7 : ∀ W, (Op.equalIn 10000 25 (mac m) (mac k)).run Try.prog W = .ok false W := fun W => by rw [equal_mac 9998 25 Try.underlying25, HMK.out]; congr 1; simp; omega
        have F5 : ∀ W, (Op.equalIn 10000 25 (mac m) (mac m)).run Try.prog W = .ok true W := fun W => by rw [equal_mac 9998 25 Try.underlying25, eqMac_self]
        have F6 : ∀ W, (Op.equalIn 10000 25 (mac k) (mac k)).run Try.prog W = .ok true W := fun W => by rw [equal_mac 9998 25 Try.underlying25, eqMac_self]
        clear g2 g3 g4 HC
        go_wp2_with fail
        go_region_held3 (fun w' => w'.cell? ⟨a, 0, none⟩ = some (.int .u16 (p : Nat)) ∧ w'.cell? ⟨a, 1, none⟩ = some (.int .u16 (p : Nat)) ∧ w'.cell? ⟨c, 0, none⟩ = some (.int .u8 (m 0 : Nat)) ∧ w'.cell? ⟨c, 1, none⟩ = some (.int .u8 (m 1 : Nat)) ∧ w'.cell? ⟨c, 2, none⟩ = some (.int .u8 (m 2 : Nat)) ∧ w'.cell? ⟨c, 3, none⟩ = some (.int .u8 (m 3 : Nat)) ∧ w'.cell? ⟨c, 4, none⟩ = some (.int .u8 (m 4 : Nat)) ∧ w'.cell? ⟨c, 5, none⟩ = some (.int .u8 (m 5 : Nat)) ∧ w'.cell? ⟨d, 0, none⟩ = some (.int .u8 (k 0 : Nat)) ∧ w'.cell? ⟨d, 1, none⟩ = some (.int .u8 (k 1 : Nat)) ∧ w'.cell? ⟨d, 2, none⟩ = some (.int .u8 (k 2 : Nat)) ∧ w'.cell? ⟨d, 3, none⟩ = some (.int .u8 (k 3 : Nat)) ∧ w'.cell? ⟨d, 4, none⟩ = some (.int .u8 (k 4 : Nat)) ∧ w'.cell? ⟨d, 5, none⟩ = some (.int .u8 (k 5 : Nat)) ∧ Iq w a c d p p m k w')
          (first | (exact hiq) | (go_split_ands; exact (Iq.next (by assumption) hbx).all))
          (first
            | (go_at_call 21; (with_reducible refine (priority_any A _ lA).mono ?_); rintro e wx ⟨rfl, rfl⟩; rw [PA.out])
            | (go_at_call 22; (with_reducible refine (idmac_any A _).mono ?_); rintro e wx ⟨rfl, hbx⟩; rw [MA.out])
            | (go_at_call 22; (with_reducible refine (idmac_any D _).mono ?_); rintro e wx ⟨rfl, hbx⟩; rw [MD.out])
            | (go_at_call 11; (with_reducible refine (int_any m _ H6.out).mono ?_); rintro e wx ⟨rfl, hbx⟩; rw [X.out])
            | (go_at_call 11; (with_reducible refine (int_any k _ K6.out).mono ?_); rintro e wx ⟨rfl, hbx⟩; rw [Y.out]))
        all_goals
          go_split_ands
          go_wp2
          go_ret
          exact ⟨rfl, by rw [HA.out]; exact (show Iq w a c d p p m k wx by assumption).below⟩
      · have f1 : decide (p < q) = false := by simp; omega
        have f2 : decide (A < D) = false := by simp; omega
        have f3 : ((p : Int) == (q : Int)) = false := by simp; omega
        have f4 : ((A : Int) == (D : Int)) = false := by simp; omega
        have F5 : ∀ W, (Op.equalIn 10000 25 (mac m) (mac m)).run Try.prog W = .ok true W := fun W => by rw [equal_mac 9998 25 Try.underlying25, eqMac_self]
        have F6 : ∀ W, (Op.equalIn 10000 25 (mac k) (mac k)).run Try.prog W = .ok true W := fun W => by rw [equal_mac 9998 25 Try.underlying25, eqMac_self]
        clear g1 g2 g3 g4 HC
        go_wp2_with fail
        refine wp_region_held_drew (S := fun w' => w'.cell? ⟨a, 0, none⟩ = some (.int .u16 (p : Nat)) ∧ w'.cell? ⟨a, 1, none⟩ = some (.int .u16 (q : Nat)) ∧ w'.cell? ⟨c, 0, none⟩ = some (.int .u8 (m 0 : Nat)) ∧ w'.cell? ⟨c, 1, none⟩ = some (.int .u8 (m 1 : Nat)) ∧ w'.cell? ⟨c, 2, none⟩ = some (.int .u8 (m 2 : Nat)) ∧ w'.cell? ⟨c, 3, none⟩ = some (.int .u8 (m 3 : Nat)) ∧ w'.cell? ⟨c, 4, none⟩ = some (.int .u8 (m 4 : Nat)) ∧ w'.cell? ⟨c, 5, none⟩ = some (.int .u8 (m 5 : Nat)) ∧ w'.cell? ⟨d, 0, none⟩ = some (.int .u8 (k 0 : Nat)) ∧ w'.cell? ⟨d, 1, none⟩ = some (.int .u8 (k 1 : Nat)) ∧ w'.cell? ⟨d, 2, none⟩ = some (.int .u8 (k 2 : Nat)) ∧ w'.cell? ⟨d, 3, none⟩ = some (.int .u8 (k 3 : Nat)) ∧ w'.cell? ⟨d, 4, none⟩ = some (.int .u8 (k 4 : Nat)) ∧ w'.cell? ⟨d, 5, none⟩ = some (.int .u8 (k 5 : Nat)) ∧ Iq w a c d p q m k w') (by kernel_rfl) (by exact hiq) (fun hHeld => ?_)
        (refine wpAnyH_take (i := 0) (v := ?_) rfl (by kernel_rfl) (by kernel_rfl) (by kernel_rfl) (fun _ _ _ h => h) (Or.inl ⟨by rfl, ?_⟩) (by assumption) ?_; rotate_left; (· (intro w hSw; (try dsimp only at hSw); go_simp; try with_reducible rfl)); (try simp only [Act.put, List.getElem_toArray, List.getElem_cons_zero, List.setIfInBounds_toArray, List.set_cons_zero, List.set_cons_succ]))
        (refine wpAnyH_take (i := 2) (v := ?_) rfl (by kernel_rfl) (by kernel_rfl) (by kernel_rfl) (fun _ _ _ h => h) (Or.inl ⟨by rfl, ?_⟩) (by assumption) ?_; rotate_left; (· (intro w hSw; (try dsimp only at hSw); go_simp; try with_reducible rfl)); (try simp only [Act.put, List.getElem_toArray, List.getElem_cons_succ, List.getElem_cons_zero, List.setIfInBounds_toArray, List.set_cons_zero, List.set_cons_succ]))
        (refine wpAnyH_take (i := 3) (v := ?_) rfl (by kernel_rfl) (by kernel_rfl) (by kernel_rfl) (fun _ _ _ h => h) (Or.inl ⟨by rfl, ?_⟩) (by assumption) ?_; rotate_left; (· (intro w hSw; (try dsimp only at hSw); go_simp; try with_reducible rfl)); (try simp only [Act.put, List.getElem_toArray, List.getElem_cons_succ, List.getElem_cons_zero, List.setIfInBounds_toArray, List.set_cons_zero, List.set_cons_succ]))
        refine wpAnyH_ready (rs := [1]) (by kernel_rfl) (by simp) ?_
        refine AllReadyH.cons rfl (fun K hK => ?_) AllReadyH.nil
        go_simp
        refine (priority_any A _ lA).mono ?_
        rintro e wx ⟨rfl, rfl⟩
        rw [PA.out]
        go_wp2_with fail
        refine hK.out _ _ (by exact hiq) (fun hHeld => ?_)
        clear hK K
        (try simp only [Act.put, List.getElem_toArray, List.getElem_cons_succ, List.getElem_cons_zero, List.setIfInBounds_toArray, List.set_cons_zero, List.set_cons_succ])
        (refine wpAnyH_take (i := 4) (v := ?_) rfl (by kernel_rfl) (by kernel_rfl) (by kernel_rfl) (fun _ _ _ h => h) (Or.inl ⟨by rfl, ?_⟩) (by assumption) ?_; rotate_left; (· (intro w hSw; (try dsimp only at hSw); go_simp; try with_reducible rfl)); (try simp only [Act.put, List.getElem_toArray, List.getElem_cons_succ, List.getElem_cons_zero, List.setIfInBounds_toArray, List.set_cons_zero, List.set_cons_succ]))
        (refine wpAnyH_take (i := 5) (v := ?_) rfl (by kernel_rfl) (by kernel_rfl) (by kernel_rfl) (fun _ _ _ h => h) (Or.inl ⟨by rfl, ?_⟩) (by assumption) ?_; rotate_left; (· (intro w hSw; (try dsimp only at hSw); go_simp; try with_reducible rfl)); (try simp only [Act.put, List.getElem_toArray, List.getElem_cons_succ, List.getElem_cons_zero, List.setIfInBounds_toArray, List.set_cons_zero, List.set_cons_succ]))
        (refine wpAnyH_take (i := 6) (v := ?_) rfl (by kernel_rfl) (by kernel_rfl) (by kernel_rfl) (fun _ _ _ h => h) (Or.inl ⟨by rfl, ?_⟩) (by assumption) ?_; rotate_left; (· (intro w hSw; (try dsimp only at hSw); go_simp; try with_reducible rfl)); (try simp only [Act.put, List.getElem_toArray, List.getElem_cons_succ, List.getElem_cons_zero, List.setIfInBounds_toArray, List.set_cons_zero, List.set_cons_succ]))
        (refine wpAnyH_take (i := 8) (v := ?_) rfl (by kernel_rfl) (by kernel_rfl) (by kernel_rfl) (fun _ _ _ h => h) (Or.inl ⟨by rfl, ?_⟩) (by assumption) ?_; rotate_left; (· (intro w hSw; (try dsimp only at hSw); go_simp; try with_reducible rfl)); (try simp only [Act.put, List.getElem_toArray, List.getElem_cons_succ, List.getElem_cons_zero, List.setIfInBounds_toArray, List.set_cons_zero, List.set_cons_succ]))
        refine wpAnyH_ready (rs := [7]) (by kernel_rfl) (by simp) ?_
        refine AllReadyH.cons rfl (fun K hK => ?_) AllReadyH.nil
        go_simp
        refine (idmac_any A _).mono ?_
        rintro e wx ⟨rfl, hbx⟩
        rw [MA.out]
        go_wp2_with fail
        refine hK.out _ _ (Iq.next iq2.drew hbx).all (fun hHeld => ?_)
        clear hK K
        (try simp only [Act.put, List.getElem_toArray, List.getElem_cons_succ, List.getElem_cons_zero, List.setIfInBounds_toArray, List.set_cons_zero, List.set_cons_succ])
        (refine wpAnyH_take (i := 9) (v := ?_) rfl (by kernel_rfl) (by kernel_rfl) (by kernel_rfl) (fun _ _ _ h => h) (Or.inl ⟨by rfl, ?_⟩) (by assumption) ?_; rotate_left; (· (intro w hSw; (try dsimp only at hSw); go_simp; try with_reducible rfl)); (try simp only [Act.put, List.getElem_toArray, List.getElem_cons_succ, List.getElem_cons_zero, List.setIfInBounds_toArray, List.set_cons_zero, List.set_cons_succ]))
        (refine wpAnyH_take (i := 10) (v := ?_) rfl (by kernel_rfl) (by kernel_rfl) (by kernel_rfl) (fun _ _ _ h => h) (Or.inl ⟨by rfl, ?_⟩) (by assumption) ?_; rotate_left; (· (intro w hSw; (try dsimp only at hSw); go_simp; try with_reducible rfl)); (try simp only [Act.put, List.getElem_toArray, List.getElem_cons_succ, List.getElem_cons_zero, List.setIfInBounds_toArray, List.set_cons_zero, List.set_cons_succ]))
        (refine wpAnyH_take (i := 11) (v := ?_) rfl (by kernel_rfl) (by kernel_rfl) (by kernel_rfl) (fun _ _ _ h => h) (Or.inl ⟨by rfl, ?_⟩) (by assumption) ?_; rotate_left; (· (intro w hSw; (try dsimp only at hSw); go_simp; try with_reducible rfl)); (try simp only [Act.put, List.getElem_toArray, List.getElem_cons_succ, List.getElem_cons_zero, List.setIfInBounds_toArray, List.set_cons_zero, List.set_cons_succ]))
        (refine wpAnyH_take (i := 12) (v := ?_) rfl (by kernel_rfl) (by kernel_rfl) (by kernel_rfl) (fun _ _ _ h => h) (Or.inl ⟨by rfl, ?_⟩) (by assumption) ?_; rotate_left; (· (intro w hSw; (try dsimp only at hSw); go_simp; try with_reducible rfl)); (try simp only [Act.put, List.getElem_toArray, List.getElem_cons_succ, List.getElem_cons_zero, List.setIfInBounds_toArray, List.set_cons_zero, List.set_cons_succ]))
        (refine wpAnyH_take (i := 14) (v := ?_) rfl (by kernel_rfl) (by kernel_rfl) (by kernel_rfl) (fun _ _ _ h => h) (Or.inl ⟨by rfl, ?_⟩) (by assumption) ?_; rotate_left; (· (intro w hSw; (try dsimp only at hSw); go_simp; try with_reducible rfl)); (try simp only [Act.put, List.getElem_toArray, List.getElem_cons_succ, List.getElem_cons_zero, List.setIfInBounds_toArray, List.set_cons_zero, List.set_cons_succ]))
        refine wpAnyH_ready (rs := [13]) (by kernel_rfl) (by simp) ?_
        refine AllReadyH.cons rfl (fun K hK => ?_) AllReadyH.nil
        go_simp
        refine (idmac_any D _).mono ?_
        rintro e wx ⟨rfl, hby⟩
        rw [MD.out]
        go_wp2_with fail
        refine hK.out _ _ (Iq.next (Iq.next iq2.drew hbx) hby).all (fun hHeld => ?_)
        clear hK K
        (try simp only [Act.put, List.getElem_toArray, List.getElem_cons_succ, List.getElem_cons_zero, List.setIfInBounds_toArray, List.set_cons_zero, List.set_cons_succ])
        (refine wpAnyH_take (i := 15) (v := ?_) rfl (by kernel_rfl) (by kernel_rfl) (by kernel_rfl) (fun _ _ _ h => h) (Or.inl ⟨by rfl, ?_⟩) (by assumption) ?_; rotate_left; (· (intro w hSw; (try dsimp only at hSw); go_simp; try with_reducible rfl)); (try simp only [Act.put, List.getElem_toArray, List.getElem_cons_succ, List.getElem_cons_zero, List.setIfInBounds_toArray, List.set_cons_zero, List.set_cons_succ]))
        (refine wpAnyH_take (i := 16) (v := ?_) rfl (by kernel_rfl) (by kernel_rfl) (by kernel_rfl) (fun _ _ _ h => h) (Or.inl ⟨by rfl, ?_⟩) (by assumption) ?_; rotate_left; (· (intro w hSw; (try dsimp only at hSw); go_simp; try with_reducible rfl)); (try simp only [Act.put, List.getElem_toArray, List.getElem_cons_succ, List.getElem_cons_zero, List.setIfInBounds_toArray, List.set_cons_zero, List.set_cons_succ]))
        (refine wpAnyH_take (i := 17) (v := ?_) rfl (by kernel_rfl) (by kernel_rfl) (by kernel_rfl) (fun _ _ _ h => h) (Or.inl ⟨by rfl, ?_⟩) (by assumption) ?_; rotate_left; (· (intro w hSw; (try dsimp only at hSw); go_simp; try with_reducible rfl)); (try simp only [Act.put, List.getElem_toArray, List.getElem_cons_succ, List.getElem_cons_zero, List.setIfInBounds_toArray, List.set_cons_zero, List.set_cons_succ]))
        (refine wpAnyH_take (i := 18) (v := ?_) rfl (by kernel_rfl) (by kernel_rfl) (by kernel_rfl) (fun _ _ _ h => h) (Or.inl ⟨by rfl, ?_⟩) (by assumption) ?_; rotate_left; (· (intro w hSw; (try dsimp only at hSw); go_simp; try with_reducible rfl)); (try simp only [Act.put, List.getElem_toArray, List.getElem_cons_succ, List.getElem_cons_zero, List.setIfInBounds_toArray, List.set_cons_zero, List.set_cons_succ]))
        (refine wpAnyH_take (i := 19) (v := ?_) rfl (by kernel_rfl) (by kernel_rfl) (by kernel_rfl) (fun _ _ _ h => h) (Or.inl ⟨by rfl, ?_⟩) (by assumption) ?_; rotate_left; (· (intro w hSw; (try dsimp only at hSw); go_simp; try with_reducible rfl)); (try simp only [Act.put, List.getElem_toArray, List.getElem_cons_succ, List.getElem_cons_zero, List.setIfInBounds_toArray, List.set_cons_zero, List.set_cons_succ]))
        (refine wpAnyH_take (i := 20) (v := ?_) rfl (by kernel_rfl) (by kernel_rfl) (by kernel_rfl) (fun _ _ _ h => h) (Or.inl ⟨by rfl, ?_⟩) (by assumption) ?_; rotate_left; (· (intro w hSw; (try dsimp only at hSw); go_simp; try with_reducible rfl)); (try simp only [Act.put, List.getElem_toArray, List.getElem_cons_succ, List.getElem_cons_zero, List.setIfInBounds_toArray, List.set_cons_zero, List.set_cons_succ]))
        (refine wpAnyH_take (i := 21) (v := ?_) rfl (by kernel_rfl) (by kernel_rfl) (by kernel_rfl) (fun _ _ _ h => h) (Or.inl ⟨by rfl, ?_⟩) (by assumption) ?_; rotate_left; (· (intro w hSw; (try dsimp only at hSw); go_simp; try with_reducible rfl)); (try simp only [Act.put, List.getElem_toArray, List.getElem_cons_succ, List.getElem_cons_zero, List.setIfInBounds_toArray, List.set_cons_zero, List.set_cons_succ]))
        (refine wpAnyH_take (i := 22) (v := ?_) rfl (by kernel_rfl) (by kernel_rfl) (by kernel_rfl) (fun _ _ _ h => h) (Or.inl ⟨by rfl, ?_⟩) (by assumption) ?_; rotate_left; (· (intro w hSw; (try dsimp only at hSw); go_simp; try with_reducible rfl)); (try simp only [Act.put, List.getElem_toArray, List.getElem_cons_succ, List.getElem_cons_zero, List.setIfInBounds_toArray, List.set_cons_zero, List.set_cons_succ]))
        (refine wpAnyH_take (i := 23) (v := ?_) rfl (by kernel_rfl) (by kernel_rfl) (by kernel_rfl) (fun _ _ _ h => h) (Or.inl ⟨by rfl, ?_⟩) (by assumption) ?_; rotate_left; (· (intro w hSw; (try dsimp only at hSw); go_simp; try with_reducible rfl)); (try simp only [Act.put, List.getElem_toArray, List.getElem_cons_succ, List.getElem_cons_zero, List.setIfInBounds_toArray, List.set_cons_zero, List.set_cons_succ]))
        (refine wpAnyH_take (i := 24) (v := ?_) rfl (by kernel_rfl) (by kernel_rfl) (by kernel_rfl) (fun _ _ _ h => h) (Or.inl ⟨by rfl, ?_⟩) (by assumption) ?_; rotate_left; (· (intro w hSw; (try dsimp only at hSw); go_simp; try with_reducible rfl)); (try simp only [Act.put, List.getElem_toArray, List.getElem_cons_succ, List.getElem_cons_zero, List.setIfInBounds_toArray, List.set_cons_zero, List.set_cons_succ]))
        (refine wpAnyH_take (i := 25) (v := ?_) rfl (by kernel_rfl) (by kernel_rfl) (by kernel_rfl) (fun _ _ _ h => h) (Or.inl ⟨by rfl, ?_⟩) (by assumption) ?_; rotate_left; (· (intro w hSw; (try dsimp only at hSw); go_simp; try with_reducible rfl)); (try simp only [Act.put, List.getElem_toArray, List.getElem_cons_succ, List.getElem_cons_zero, List.setIfInBounds_toArray, List.set_cons_zero, List.set_cons_succ]))
        (refine wpAnyH_take (i := 26) (v := ?_) rfl (by kernel_rfl) (by kernel_rfl) (by kernel_rfl) (fun _ _ _ h => h) (Or.inl ⟨by rfl, ?_⟩) (by assumption) ?_; rotate_left; (· (intro w hSw; (try dsimp only at hSw); go_simp; try with_reducible rfl)); (try simp only [Act.put, List.getElem_toArray, List.getElem_cons_succ, List.getElem_cons_zero, List.setIfInBounds_toArray, List.set_cons_zero, List.set_cons_succ]))
        (refine wpAnyH_take (i := 27) (v := ?_) rfl (by kernel_rfl) (by kernel_rfl) (by kernel_rfl) (fun _ _ _ h => h) (Or.inl ⟨by rfl, ?_⟩) (by assumption) ?_; rotate_left; (· (intro w hSw; (try dsimp only at hSw); go_simp; try with_reducible rfl)); (try simp only [Act.put, List.getElem_toArray, List.getElem_cons_succ, List.getElem_cons_zero, List.setIfInBounds_toArray, List.set_cons_zero, List.set_cons_succ]))
        (refine wpAnyH_take (i := 28) (v := ?_) rfl (by kernel_rfl) (by kernel_rfl) (by kernel_rfl) (fun _ _ _ h => h) (Or.inl ⟨by rfl, ?_⟩) (by assumption) ?_; rotate_left; (· (intro w hSw; (try dsimp only at hSw); go_simp; try with_reducible rfl)); (try simp only [Act.put, List.getElem_toArray, List.getElem_cons_succ, List.getElem_cons_zero, List.setIfInBounds_toArray, List.set_cons_zero, List.set_cons_succ]))
        (refine wpAnyH_take (i := 29) (v := ?_) rfl (by kernel_rfl) (by kernel_rfl) (by kernel_rfl) (fun _ _ _ h => h) (Or.inl ⟨by rfl, ?_⟩) (by assumption) ?_; rotate_left; (· (intro w hSw; (try dsimp only at hSw); go_simp; try with_reducible rfl)); (try simp only [Act.put, List.getElem_toArray, List.getElem_cons_succ, List.getElem_cons_zero, List.setIfInBounds_toArray, List.set_cons_zero, List.set_cons_succ]))
        (refine wpAnyH_take (i := 30) (v := ?_) rfl (by kernel_rfl) (by kernel_rfl) (by kernel_rfl) (fun _ _ _ h => h) (Or.inl ⟨by rfl, ?_⟩) (by assumption) ?_; rotate_left; (· (intro w hSw; (try dsimp only at hSw); go_simp; try with_reducible rfl)); (try simp only [Act.put, List.getElem_toArray, List.getElem_cons_succ, List.getElem_cons_zero, List.setIfInBounds_toArray, List.set_cons_zero, List.set_cons_succ]))
        (refine wpAnyH_take (i := 31) (v := ?_) rfl (by kernel_rfl) (by kernel_rfl) (by kernel_rfl) (fun _ _ _ h => h) (Or.inl ⟨by rfl, ?_⟩) (by assumption) ?_; rotate_left; (· (intro w hSw; (try dsimp only at hSw); go_simp; try with_reducible rfl)); (try simp only [Act.put, List.getElem_toArray, List.getElem_cons_succ, List.getElem_cons_zero, List.setIfInBounds_toArray, List.set_cons_zero, List.set_cons_succ]))
        (refine wpAnyH_take (i := 32) (v := ?_) rfl (by kernel_rfl) (by kernel_rfl) (by kernel_rfl) (fun _ _ _ h => h) (Or.inl ⟨by rfl, ?_⟩) (by assumption) ?_; rotate_left; (· (intro w hSw; (try dsimp only at hSw); go_simp; try with_reducible rfl)); (try simp only [Act.put, List.getElem_toArray, List.getElem_cons_succ, List.getElem_cons_zero, List.setIfInBounds_toArray, List.set_cons_zero, List.set_cons_succ]))
        (refine wpAnyH_take (i := 33) (v := undef) rfl (by kernel_rfl) (by kernel_rfl) (by kernel_rfl) (fun _ _ _ h => h) (Or.inr ⟨by rfl, rfl⟩) (by assumption) ?_; (try simp only [Act.put, List.getElem_toArray, List.getElem_cons_succ, List.getElem_cons_zero, List.setIfInBounds_toArray, List.set_cons_zero, List.set_cons_succ]))
        (refine wpAnyH_take (i := 34) (v := undef) rfl (by kernel_rfl) (by kernel_rfl) (by kernel_rfl) (fun _ _ _ h => h) (Or.inr ⟨by rfl, rfl⟩) (by assumption) ?_; (try simp only [Act.put, List.getElem_toArray, List.getElem_cons_succ, List.getElem_cons_zero, List.setIfInBounds_toArray, List.set_cons_zero, List.set_cons_succ]))
        (refine wpAnyH_take (i := 35) (v := undef) rfl (by kernel_rfl) (by kernel_rfl) (by kernel_rfl) (fun _ _ _ h => h) (Or.inr ⟨by rfl, rfl⟩) (by assumption) ?_; (try simp only [Act.put, List.getElem_toArray, List.getElem_cons_succ, List.getElem_cons_zero, List.setIfInBounds_toArray, List.set_cons_zero, List.set_cons_succ]))
        (refine wpAnyH_take (i := 36) (v := undef) rfl (by kernel_rfl) (by kernel_rfl) (by kernel_rfl) (fun _ _ _ h => h) (Or.inr ⟨by rfl, rfl⟩) (by assumption) ?_; (try simp only [Act.put, List.getElem_toArray, List.getElem_cons_succ, List.getElem_cons_zero, List.setIfInBounds_toArray, List.set_cons_zero, List.set_cons_succ]))
        (refine wpAnyH_take (i := 37) (v := undef) rfl (by kernel_rfl) (by kernel_rfl) (by kernel_rfl) (fun _ _ _ h => h) (Or.inr ⟨by rfl, rfl⟩) (by assumption) ?_; (try simp only [Act.put, List.getElem_toArray, List.getElem_cons_succ, List.getElem_cons_zero, List.setIfInBounds_toArray, List.set_cons_zero, List.set_cons_succ]))
        (refine wpAnyH_take (i := 38) (v := ?_) rfl (by kernel_rfl) (by kernel_rfl) (by kernel_rfl) (fun _ _ _ h => h) (Or.inl ⟨by rfl, ?_⟩) (by assumption) ?_; rotate_left; (· (intro w hSw; (try dsimp only at hSw); go_simp; try with_reducible rfl)); (try simp only [Act.put, List.getElem_toArray, List.getElem_cons_succ, List.getElem_cons_zero, List.setIfInBounds_toArray, List.set_cons_zero, List.set_cons_succ]))
        (refine wpAnyH_take (i := 39) (v := ?_) rfl (by kernel_rfl) (by kernel_rfl) (by kernel_rfl) (fun _ _ _ h => h) (Or.inl ⟨by rfl, ?_⟩) (by assumption) ?_; rotate_left; (· (intro w hSw; (try dsimp only at hSw); go_simp; try with_reducible rfl)); (try simp only [Act.put, List.getElem_toArray, List.getElem_cons_succ, List.getElem_cons_zero, List.setIfInBounds_toArray, List.set_cons_zero, List.set_cons_succ]))
        (refine wpAnyH_take (i := 40) (v := ?_) rfl (by kernel_rfl) (by kernel_rfl) (by kernel_rfl) (fun _ _ _ h => h) (Or.inl ⟨by rfl, ?_⟩) (by assumption) ?_; rotate_left; (· (intro w hSw; (try dsimp only at hSw); go_simp; try with_reducible rfl)); (try simp only [Act.put, List.getElem_toArray, List.getElem_cons_succ, List.getElem_cons_zero, List.setIfInBounds_toArray, List.set_cons_zero, List.set_cons_succ]))
        (refine wpAnyH_take (i := 41) (v := ?_) rfl (by kernel_rfl) (by kernel_rfl) (by kernel_rfl) (fun _ _ _ h => h) (Or.inl ⟨by rfl, ?_⟩) (by assumption) ?_; rotate_left; (· (intro w hSw; (try dsimp only at hSw); go_simp; try with_reducible rfl)); (try simp only [Act.put, List.getElem_toArray, List.getElem_cons_succ, List.getElem_cons_zero, List.setIfInBounds_toArray, List.set_cons_zero, List.set_cons_succ]))
        (refine wpAnyH_take (i := 42) (v := ?_) rfl (by kernel_rfl) (by kernel_rfl) (by kernel_rfl) (fun _ _ _ h => h) (Or.inl ⟨by rfl, ?_⟩) (by assumption) ?_; rotate_left; (· (intro w hSw; (try dsimp only at hSw); go_simp; try with_reducible rfl)); (try simp only [Act.put, List.getElem_toArray, List.getElem_cons_succ, List.getElem_cons_zero, List.setIfInBounds_toArray, List.set_cons_zero, List.set_cons_succ]))
        (refine wpAnyH_take (i := 43) (v := ?_) rfl (by kernel_rfl) (by kernel_rfl) (by kernel_rfl) (fun _ _ _ h => h) (Or.inl ⟨by rfl, ?_⟩) (by assumption) ?_; rotate_left; (· (intro w hSw; (try dsimp only at hSw); go_simp; try with_reducible rfl)); (try simp only [Act.put, List.getElem_toArray, List.getElem_cons_succ, List.getElem_cons_zero, List.setIfInBounds_toArray, List.set_cons_zero, List.set_cons_succ]))
        (refine wpAnyH_take (i := 44) (v := ?_) rfl (by kernel_rfl) (by kernel_rfl) (by kernel_rfl) (fun _ _ _ h => h) (Or.inl ⟨by rfl, ?_⟩) (by assumption) ?_; rotate_left; (· (intro w hSw; (try dsimp only at hSw); go_simp; try with_reducible rfl)); (try simp only [Act.put, List.getElem_toArray, List.getElem_cons_succ, List.getElem_cons_zero, List.setIfInBounds_toArray, List.set_cons_zero, List.set_cons_succ]))
        (refine wpAnyH_take (i := 45) (v := ?_) rfl (by kernel_rfl) (by kernel_rfl) (by kernel_rfl) (fun _ _ _ h => h) (Or.inl ⟨by rfl, ?_⟩) (by assumption) ?_; rotate_left; (· (intro w hSw; (try dsimp only at hSw); go_simp; try with_reducible rfl)); (try simp only [Act.put, List.getElem_toArray, List.getElem_cons_succ, List.getElem_cons_zero, List.setIfInBounds_toArray, List.set_cons_zero, List.set_cons_succ]))
        (refine wpAnyH_take (i := 46) (v := ?_) rfl (by kernel_rfl) (by kernel_rfl) (by kernel_rfl) (fun _ _ _ h => h) (Or.inl ⟨by rfl, ?_⟩) (by assumption) ?_; rotate_left; (· (intro w hSw; (try dsimp only at hSw); go_simp; try with_reducible rfl)); (try simp only [Act.put, List.getElem_toArray, List.getElem_cons_succ, List.getElem_cons_zero, List.setIfInBounds_toArray, List.set_cons_zero, List.set_cons_succ]))
        (refine wpAnyH_take (i := 47) (v := ?_) rfl (by kernel_rfl) (by kernel_rfl) (by kernel_rfl) (fun _ _ _ h => h) (Or.inl ⟨by rfl, ?_⟩) (by assumption) ?_; rotate_left; (· (intro w hSw; (try dsimp only at hSw); go_simp; try with_reducible rfl)); (try simp only [Act.put, List.getElem_toArray, List.getElem_cons_succ, List.getElem_cons_zero, List.setIfInBounds_toArray, List.set_cons_zero, List.set_cons_succ]))
        (refine wpAnyH_take (i := 48) (v := ?_) rfl (by kernel_rfl) (by kernel_rfl) (by kernel_rfl) (fun _ _ _ h => h) (Or.inl ⟨by rfl, ?_⟩) (by assumption) ?_; rotate_left; (· (intro w hSw; (try dsimp only at hSw); go_simp; try with_reducible rfl)); (try simp only [Act.put, List.getElem_toArray, List.getElem_cons_succ, List.getElem_cons_zero, List.setIfInBounds_toArray, List.set_cons_zero, List.set_cons_succ]))
        (refine wpAnyH_take (i := 49) (v := ?_) rfl (by kernel_rfl) (by kernel_rfl) (by kernel_rfl) (fun _ _ _ h => h) (Or.inl ⟨by rfl, ?_⟩) (by assumption) ?_; rotate_left; (· (intro w hSw; (try dsimp only at hSw); go_simp; try with_reducible rfl)); (try simp only [Act.put, List.getElem_toArray, List.getElem_cons_succ, List.getElem_cons_zero, List.setIfInBounds_toArray, List.set_cons_zero, List.set_cons_succ]))
        (refine wpAnyH_take (i := 50) (v := ?_) rfl (by kernel_rfl) (by kernel_rfl) (by kernel_rfl) (fun _ _ _ h => h) (Or.inl ⟨by rfl, ?_⟩) (by assumption) ?_; rotate_left; (· (intro w hSw; (try dsimp only at hSw); go_simp; try with_reducible rfl)); (try simp only [Act.put, List.getElem_toArray, List.getElem_cons_succ, List.getElem_cons_zero, List.setIfInBounds_toArray, List.set_cons_zero, List.set_cons_succ]))
        (refine wpAnyH_take (i := 51) (v := ?_) rfl (by kernel_rfl) (by kernel_rfl) (by kernel_rfl) (fun _ _ _ h => h) (Or.inl ⟨by rfl, ?_⟩) (by assumption) ?_; rotate_left; (· (intro w hSw; (try dsimp only at hSw); go_simp; try with_reducible rfl)); (try simp only [Act.put, List.getElem_toArray, List.getElem_cons_succ, List.getElem_cons_zero, List.setIfInBounds_toArray, List.set_cons_zero, List.set_cons_succ]))
        (refine wpAnyH_take (i := 52) (v := undef) rfl (by kernel_rfl) (by kernel_rfl) (by kernel_rfl) (fun _ _ _ h => h) (Or.inr ⟨by rfl, rfl⟩) (by assumption) ?_; (try simp only [Act.put, List.getElem_toArray, List.getElem_cons_succ, List.getElem_cons_zero, List.setIfInBounds_toArray, List.set_cons_zero, List.set_cons_succ]))
        (refine wpAnyH_take (i := 53) (v := undef) rfl (by kernel_rfl) (by kernel_rfl) (by kernel_rfl) (fun _ _ _ h => h) (Or.inr ⟨by rfl, rfl⟩) (by assumption) ?_; (try simp only [Act.put, List.getElem_toArray, List.getElem_cons_succ, List.getElem_cons_zero, List.setIfInBounds_toArray, List.set_cons_zero, List.set_cons_succ]))
        (refine wpAnyH_take (i := 54) (v := undef) rfl (by kernel_rfl) (by kernel_rfl) (by kernel_rfl) (fun _ _ _ h => h) (Or.inr ⟨by rfl, rfl⟩) (by assumption) ?_; (try simp only [Act.put, List.getElem_toArray, List.getElem_cons_succ, List.getElem_cons_zero, List.setIfInBounds_toArray, List.set_cons_zero, List.set_cons_succ]))
        (refine wpAnyH_take (i := 55) (v := ?_) rfl (by kernel_rfl) (by kernel_rfl) (by kernel_rfl) (fun _ _ _ h => h) (Or.inl ⟨by rfl, ?_⟩) (by assumption) ?_; rotate_left; (· (intro w hSw; (try dsimp only at hSw); go_simp; try with_reducible rfl)); (try simp only [Act.put, List.getElem_toArray, List.getElem_cons_succ, List.getElem_cons_zero, List.setIfInBounds_toArray, List.set_cons_zero, List.set_cons_succ]))
        (refine wpAnyH_take (i := 56) (v := ?_) rfl (by kernel_rfl) (by kernel_rfl) (by kernel_rfl) (fun _ _ _ h => h) (Or.inl ⟨by rfl, ?_⟩) (by assumption) ?_; rotate_left; (· (intro w hSw; (try dsimp only at hSw); go_simp; try with_reducible rfl)); (try simp only [Act.put, List.getElem_toArray, List.getElem_cons_succ, List.getElem_cons_zero, List.setIfInBounds_toArray, List.set_cons_zero, List.set_cons_succ]))
        (refine wpAnyH_take (i := 57) (v := ?_) rfl (by kernel_rfl) (by kernel_rfl) (by kernel_rfl) (fun _ _ _ h => h) (Or.inl ⟨by rfl, ?_⟩) (by assumption) ?_; rotate_left; (· (intro w hSw; (try dsimp only at hSw); go_simp; try with_reducible rfl)); (try simp only [Act.put, List.getElem_toArray, List.getElem_cons_succ, List.getElem_cons_zero, List.setIfInBounds_toArray, List.set_cons_zero, List.set_cons_succ]))
        (refine wpAnyH_take (i := 58) (v := ?_) rfl (by kernel_rfl) (by kernel_rfl) (by kernel_rfl) (fun _ _ _ h => h) (Or.inl ⟨by rfl, ?_⟩) (by assumption) ?_; rotate_left; (· (intro w hSw; (try dsimp only at hSw); go_simp; try with_reducible rfl)); (try simp only [Act.put, List.getElem_toArray, List.getElem_cons_succ, List.getElem_cons_zero, List.setIfInBounds_toArray, List.set_cons_zero, List.set_cons_succ]))
        refine wpAnyH_done (by kernel_rfl) ?_ _
        have hend := (Iq.next (Iq.next iq2.drew hbx) hby).below
        go_wp2
        go_ret
        exact ⟨rfl, by rw [HA.out]; exact hend⟩
end Go.Proofs.Ytegmhjdddcbanaa
