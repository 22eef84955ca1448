/- The first line of layer 8's statements. -/
import Derived.Test.YtjipbdljljhijaaPlays
import Derived.Test.YtjipbdljljhijaaOf
namespace Go.Proofs.Ytjipbdljljhijaa
open Go.RowKit
set_option linter.unusedSimpArgs false
set_option linter.unusedVariables false

theorem s8a : ofS [1, 2] = 3 := by decide
theorem s8b : ofS [2] = 2 := by decide
theorem s8c : setVE [] ⟨5, 3, 2⟩ = 0 := by decide
theorem s8d : setV [] ⟨5, 3, 2⟩ = [⟨5, 3, 2⟩] := by decide
theorem s8e : atV 5 [⟨5, 3, 2⟩] = 0 := by decide

variable {T : World → Nat → Nat → Nat → List Vl → Prop}

set_option maxHeartbeats 4000000 in
theorem speaks8_any (ok : TabOk T) (w : World) : Calls Try.prog 16 #[] w fun e w' => e = .returned (.bool true) ∧ Below w.heap.size w w' := by
  have i1 := Lib.hid (show ∀ W : World, Calls Try.prog 15 #[.slice (some ⟨W.heap.size, 0, none⟩) 2 2] (W.alloc (.cells #[.int .i64 1, .int .i64 2] 3)) fun e w' => e = .returned (.int .u32 (ofS [1, 2] : Nat)) ∧ (W.alloc (.cells #[.int .i64 1, .int .i64 2] 3)) = w' from fun W => of_any _ 2 [1, 2] _ (ints_new W [1, 2]) (by simp))
  have i2 := Lib.hid (show ∀ (W : World) (n : Nat), n = W.heap.size → Calls Try.prog 15 #[.slice (some ⟨n, 0, none⟩) 1 1] (W.alloc (.cells #[.int .i64 2] 3)) fun e w' => e = .returned (.int .u32 (ofS [2] : Nat)) ∧ (W.alloc (.cells #[.int .i64 2] 3)) = w' from fun W n hn => by
    rw [hn]
    exact of_any _ 1 [2] _ (ints_new W [2]) (by simp))
  go_enter Try.func16, Try.ntmps16
  go_upto_region 2 with (go_at_call 17; refine (ok.new _).mono ?_; rintro e w1 ⟨b, rfl, ht, hb1⟩)
  obtain ⟨A, hA⟩ : ∃ A, w.heap.size = A := ⟨_, rfl⟩
  obtain ⟨B, hB⟩ : ∃ B, w1.heap.size = B := ⟨_, rfl⟩
  have hAB : A ≤ B := by rw [← hA, ← hB]; exact hb1.size
  rw [hA, hB] at ht
  have HT := Lib.hid ht
  have HB1 := Lib.hid hb1
  have HA := Lib.hid hA
  have HB := Lib.hid hB
  clear ht hb1 hA hB
  go_upto_region 3 with (go_at_call 15; first | (with_reducible refine (i1.out _).mono ?_; rintro e w2 ⟨rfl, rfl⟩; rw [s8a]) | (with_reducible refine (i2.out (w1.alloc (.cells #[.int .i64 1, .int .i64 2] 3)) _ ?_).mono ?_; (· simp); rintro e w2 ⟨rfl, rfl⟩; rw [s8b]))
  obtain ⟨W2, hW2⟩ : ∃ W2, W2 = ((w1.alloc (.cells #[.int .i64 1, .int .i64 2] 3)).alloc (.cells #[.int .i64 2] 3)).alloc (.cells #[.int .u16 5, .int .u32 3, .int .u32 2] 48) := ⟨_, rfl⟩
  have b2 : Below w1.heap.size w1 W2 := by rw [hW2]; exact (((Below.refl w1.heap.size w1).alloc (Nat.le_refl _) _).alloc (by simp) _).alloc (by simp; omega) _
  have k2 : Blk W2 (w1.heap.size + 1 + 1) #[.int .u16 5, .int .u32 3, .int .u32 2] 48 := by
    have := Blk.new ((w1.alloc (.cells #[.int .i64 1, .int .i64 2] 3)).alloc (.cells #[.int .i64 2] 3)) #[.int .u16 5, .int .u32 3, .int .u32 2] 48
    rw [hW2]
    simpa using this
  rw [← hW2]
  obtain ⟨c, hc⟩ : ∃ c, w1.heap.size + 1 + 1 = c := ⟨_, rfl⟩
  rw [hc] at k2 ⊢
  have hcB : B ≤ c := by rw [← hc, HB.out]; omega
  have T2 := Lib.hid (ok.keep HT.out (fun k _ hk => b2.block k (by rw [HB.out]; exact hk)))
  have hB2 : B ≤ W2.heap.size := by have := b2.size; rw [HB.out] at this; exact this
  have Z2 := Lib.hid (HB1.out.trans (b2.mono (by rw [HA.out, HB.out]; exact hAB)))
  have K2 := Lib.hid k2
  have HCB := Lib.hid hcB
  have HB2 := Lib.hid hB2
  have HABh := Lib.hid hAB
  have d0 : W2.cell? ⟨c, 0, none⟩ = some (.int .u16 5) := k2.cell 0
  have d1 : W2.cell? ⟨c, 1, none⟩ = some (.int .u32 3) := k2.cell 1
  have d2 : W2.cell? ⟨c, 2, none⟩ = some (.int .u32 2) := k2.cell 2
  clear hW2 b2 k2 hc hcB hB2 hAB
  go_upto_region 4 with (go_at_call 22; refine (ok.set ⟨5, 3, 2⟩ T2.out HABh.out HB2.out).mono ?_; rintro e w3 ⟨rfl, ht3, hk3⟩; rw [s8c])
  rw [s8d] at ht3
  have k3 : Blk w3 c #[.int .u16 5, .int .u32 3, .int .u32 2] 48 := (hk3.block c (.inr HCB.out) K2.out.lt).trans K2.out
  have z3 : Below w.heap.size w w3 := Z2.out.trans ((hk3.below (by have := HB2.out; have := HABh.out; omega)).mono (by rw [HA.out]; exact Nat.le_refl _))
  have hB3 : B ≤ w3.heap.size := Nat.le_trans HB2.out hk3.size
  have HGET := Lib.hid (show Calls Try.prog 20 #[.pointer (some ⟨b, 0, none⟩), .int .u16 5] w3 fun e w' => e = .returned (.tuple #[.agg #[.int .u16 5, .int .u32 3, .int .u32 2], .bool true]) ∧ Below w3.heap.size w3 w' from (ok.get 5 ht3).mono fun e w' ⟨hb, hr⟩ => by
    rcases hr with ⟨q, -⟩ | ⟨k, x, q1, q2, q3⟩
    · rw [s8e] at q; cases q
    · rw [s8e] at q1
      have hk0 : k = 0 := by omega
      subst hk0
      have hx : x = ⟨5, 3, 2⟩ := (Option.some.inj q2).symm
      subst hx
      exact ⟨q3, hb⟩)
  have T3 := Lib.hid ht3
  have K3 := Lib.hid k3
  have Z3 := Lib.hid z3
  have HB3 := Lib.hid hB3
  clear d0 d1 d2 ht3 hk3 k3 z3 hB3
  go_upto_region 5 with (go_at_call 20; refine HGET.out.mono ?_; rintro e w4 ⟨rfl, hb4⟩)
  obtain ⟨W5, hW5⟩ : ∃ W5, W5 = w4.alloc (.cells #[.int .u16 5, .int .u32 3, .int .u32 2] 48) := ⟨_, rfl⟩
  have b5 : Below w3.heap.size w3 W5 := by rw [hW5]; exact hb4.alloc hb4.size _
  have k5 : Blk W5 w4.heap.size #[.int .u16 5, .int .u32 3, .int .u32 2] 48 := by rw [hW5]; exact Blk.new _ _ _
  have k5c : Blk W5 c #[.int .u16 5, .int .u32 3, .int .u32 2] 48 := K3.out.below b5 K3.out.lt
  have LST := Lib.hid (ok.list (ok.keep T3.out (fun k _ hk => b5.block k (Nat.lt_of_lt_of_le hk HB3.out))))
  have Z5 := Lib.hid (Z3.out.trans (b5.mono Z3.out.size))
  have EQ : ∀ W : World, (Op.equalIn 10000 48 (.agg #[.int .u16 5, .int .u32 3, .int .u32 2]) (.agg #[.int .u16 5, .int .u32 3, .int .u32 2])).run Try.prog W = .ok true W := equal_p48 5 3 2
  have d0 : W5.cell? ⟨c, 0, none⟩ = some (.int .u16 5) := k5c.cell 0
  have d1 : W5.cell? ⟨c, 1, none⟩ = some (.int .u32 3) := k5c.cell 1
  have d2 : W5.cell? ⟨c, 2, none⟩ = some (.int .u32 2) := k5c.cell 2
  have e0 : W5.cell? ⟨w4.heap.size, 0, none⟩ = some (.int .u16 5) := k5.cell 0
  have e1 : W5.cell? ⟨w4.heap.size, 1, none⟩ = some (.int .u32 3) := k5.cell 1
  have e2 : W5.cell? ⟨w4.heap.size, 2, none⟩ = some (.int .u32 2) := k5.cell 2
  rw [← hW5]
  clear hW5 b5 k5 k5c hb4
  go_wp2_with (go_at_call 24; refine LST.out.mono ?_; rintro e w6 ⟨A6, c6, rfl, -, hb6⟩)
  go_ret
  exact ⟨rfl, Z5.out.trans (hb6.mono Z5.out.size)⟩
end Go.Proofs.Ytjipbdljljhijaa
