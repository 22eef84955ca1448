/- The first line of layer 9's statements. -/
import Derived.Test.YtilklfmcdgggfaaFb4
import Derived.Test.YtilklfmcdgggfaaLsF
import Derived.Test.YtilklfmcdgggfaaAddr
import Derived.Test.YtilklfmcdgggfaaSrcRows
namespace Go.Proofs.Ytilklfmcdgggfaa
open Go.RowKit
set_option linter.unusedSimpArgs false
set_option linter.unusedVariables false

/-- The table alone. -/
structure One9 (w0 : World) (b A B : Nat) (mo li : Int) (l : List En) (w : World) : Prop where
  tab : TF w b A B mo li l
  low : w0.heap.size ≤ A ∧ A ≤ B ∧ B ≤ w.heap.size
  below : Below w0.heap.size w0 w
variable {w0 w w' : World} {b A B : Nat} {mo li : Int} {l l' : List En}
theorem One9.next (h : One9 w0 b A B mo li l w) (hb : Below w.heap.size w w') : One9 w0 b A B mo li l w' :=
  ⟨h.tab.keep (fun k _ hk => hb.block k (by have := h.low; omega)), ⟨h.low.1, h.low.2.1, by have := h.low; have := hb.size; omega⟩, h.below.trans (hb.mono (by have := h.low; omega))⟩
theorem One9.after (h : One9 w0 b A B mo li l w) (ht : TF w' b A B mo li l') (hk : KeptO A B w w') : One9 w0 b A B mo li l' w' := by
  have h1 := h.low
  have h2 := hk.size
  exact ⟨ht, ⟨h1.1, h1.2.1, by omega⟩, h.below.trans ((hk.below (by omega)).mono h1.1)⟩
theorem One9.start {w1 w2 : World} (hb1 : Below w0.heap.size w0 w1) (ht : TF w2 b w1.heap.size w2.heap.size mo li l) (hb2 : Below w1.heap.size w1 w2) : One9 w0 b w1.heap.size w2.heap.size mo li l w2 :=
  ⟨ht, ⟨hb1.size, hb2.size, Nat.le_refl _⟩, hb1.trans (hb2.mono hb1.size)⟩

theorem k7_cells {W : World} {c : Nat} {c0 c1 c2 c3 c4 c5 c6 : Value} (h : Blk W c #[c0, c1, c2, c3, c4, c5, c6] 36) :
    W.cell? ⟨c, 0, none⟩ = some c0 ∧ W.cell? ⟨c, 1, none⟩ = some c1 ∧ W.cell? ⟨c, 2, none⟩ = some c2 ∧ W.cell? ⟨c, 3, none⟩ = some c3 ∧ W.cell? ⟨c, 4, none⟩ = some c4 ∧ W.cell? ⟨c, 5, none⟩ = some c5 ∧ W.cell? ⟨c, 6, none⟩ = some c6 :=
  ⟨h.cell 0, h.cell 1, h.cell 2, h.cell 3, h.cell 4, h.cell 5, h.cell 6⟩
theorem c9_cells {W : World} {c : Nat} {c0 c1 c2 c3 c4 c5 c6 c7 c8 : Value} (h : Blk W c #[c0, c1, c2, c3, c4, c5, c6, c7, c8] 49) :
    W.cell? ⟨c, 0, none⟩ = some c0 ∧ W.cell? ⟨c, 1, none⟩ = some c1 ∧ W.cell? ⟨c, 2, none⟩ = some c2 ∧ W.cell? ⟨c, 3, none⟩ = some c3 ∧ W.cell? ⟨c, 4, none⟩ = some c4 ∧ W.cell? ⟨c, 5, none⟩ = some c5 ∧ W.cell? ⟨c, 6, none⟩ = some c6 ∧ W.cell? ⟨c, 7, none⟩ = some c7 ∧ W.cell? ⟨c, 8, none⟩ = some c8 :=
  ⟨h.cell 0, h.cell 1, h.cell 2, h.cell 3, h.cell 4, h.cell 5, h.cell 6, h.cell 7, h.cell 8⟩

theorem s9a : clampD 64 1 = 1 := by decide
theorem s9b : clampD 1000 9 = 9 := by decide
theorem s9c {l' : List En} {gv : Array Value} {full : Bool} (h : LearnR 1 9 [] ⟨1, 2, 3, 0⟩ l' gv full) : l' = [⟨1, 2, 3, 0⟩] := by
  rcases h with ⟨h, -⟩ | ⟨-, -, rfl, -, -⟩ | ⟨-, h, -⟩
  · exact absurd h (by decide)
  · rfl
  · exact absurd h (by decide)
theorem s9d {l' : List En} {gv : Array Value} {full : Bool} (h : LearnR 1 9 [⟨1, 2, 3, 0⟩] ⟨1, 4, 5, 0⟩ l' gv full) : l' = [⟨1, 4, 5, 0⟩] ∧ gv = enA ⟨1, 2, 3, 0⟩ ∧ full = true := by
  rcases h with ⟨h, -⟩ | ⟨-, h, -⟩ | ⟨-, -, z, ⟨hz, -⟩, rfl, rfl, rfl⟩
  · exact absurd h (by decide)
  · exact absurd h (by decide)
  · have : z = ⟨1, 2, 3, 0⟩ := by simpa using hz
    subst this
    exact ⟨rfl, rfl, rfl⟩
theorem s9e {e : Ending} (h : FindR [⟨1, 4, 5, 0⟩] (keyN 1 4) e) : e = .returned (.tuple #[.int .i64 5, .bool true]) := by
  have hc : atK enK (keyN 1 4) [⟨1, 4, 5, 0⟩] = 0 := by decide
  rcases h with ⟨h, -⟩ | ⟨k, x, h1, h2, rfl⟩
  · rw [hc] at h; cases h
  · rw [hc] at h1
    have hk0 : k = 0 := by omega
    subst hk0
    have hx : x = ⟨1, 4, 5, 0⟩ := (Option.some.inj h2).symm
    subst hx
    rfl

set_option maxRecDepth 100000 in
set_option maxHeartbeats 8000000 in
theorem speaks9_any (w : World) : Calls Try.prog 8 #[] w fun e w' => e = .returned (.bool true) ∧ Below w.heap.size w w' := by
  go_enter Try.func8, Try.ntmps8
  go_upto_region 2 with (go_at_call 9; refine (new_tf _ _ _).mono ?_; rintro e w1 ⟨b, rfl, ht, hb1⟩; rw [s9a, s9b] at ht)
  have O1 := Lib.hid (One9.start (Below.refl w.heap.size w) ht hb1)
  generalize w.heap.size = A at O1
  have HB1 := Lib.hid hb1
  clear ht hb1
  generalize hB : w1.heap.size = B at O1
  have HB := Lib.hid hB
  clear hB
  go_upto_region 3 with (go_at_call 26; first
    | (refine (fromInt_any 2 _).mono ?_; rintro e w2 ⟨rfl, hb2⟩; have O2 := Lib.hid (O1.out.next hb2))
    | (refine (fromInt_any 4 _).mono ?_; rintro e w3 ⟨rfl, hb3⟩; have O3 := Lib.hid (O2.out.next hb3)))
  obtain ⟨ka, hka⟩ : ∃ ka : Array Value, ka = #[.int .u16 1, .int .u8 (byteF 2 0 : Nat), .int .u8 (byteF 2 1 : Nat), .int .u8 (byteF 2 2 : Nat), .int .u8 (byteF 2 3 : Nat), .int .u8 (byteF 2 4 : Nat), .int .u8 (byteF 2 5 : Nat)] := ⟨_, rfl⟩
  obtain ⟨kb, hkb⟩ : ∃ kb : Array Value, kb = #[.int .u16 1, .int .u8 (byteF 4 0 : Nat), .int .u8 (byteF 4 1 : Nat), .int .u8 (byteF 4 2 : Nat), .int .u8 (byteF 4 3 : Nat), .int .u8 (byteF 4 4 : Nat), .int .u8 (byteF 4 5 : Nat)] := ⟨_, rfl⟩
  have HKA := Lib.hid hka
  have HKB := Lib.hid hkb
  obtain ⟨W3, hW3⟩ : ∃ W3, W3 = w3.alloc (.cells ka 36) := ⟨_, rfl⟩
  obtain ⟨W4, hW4⟩ : ∃ W4, W4 = W3.alloc (.cells kb 36) := ⟨_, rfl⟩
  have b3 : Below w3.heap.size w3 W3 := by rw [hW3]; exact (Below.refl _ _).alloc (Nat.le_refl _) _
  have b4 : Below W3.heap.size W3 W4 := by rw [hW4]; exact (Below.refl _ _).alloc (Nat.le_refl _) _
  have O4 := Lib.hid ((O3.out.next b3).next b4)
  have k3 : Blk W3 w3.heap.size ka 36 := by rw [hW3]; exact Blk.new _ _ _
  have k4 : Blk W4 w3.heap.size ka 36 := k3.below b4 k3.lt
  have k5 : Blk W4 W3.heap.size kb 36 := by rw [hW4]; exact Blk.new _ _ _
  have hz3 : W3.heap.size = w3.heap.size + 1 := by rw [hW3]; simp
  have hcB : B ≤ w3.heap.size := O3.out.low.2.2
  rw [hz3] at k5
  obtain ⟨c, hc⟩ : ∃ c, c = w3.heap.size := ⟨_, rfl⟩
  rw [← hc] at k4 k5 hcB hz3
  have HC := Lib.hid hc
  have HZ3 := Lib.hid hz3
  have HE3 := Lib.hid (hka ▸ hW3)
  have HE4 := Lib.hid (hkb ▸ hW4)
  have HCB := Lib.hid hcB
  have K4 := Lib.hid k4
  have K5 := Lib.hid k5
  rw [hka] at k4
  rw [hkb] at k5
  clear hW3 hW4 b3 b4 k3 hz3 hc hcB hb2 hb3 hka hkb
  rw [← HE3.out, ← HE4.out, ← HC.out]
  obtain ⟨q0, q1, q2, q3, q4, q5, q6⟩ := k7_cells k4
  obtain ⟨r0, r1, r2, r3, r4, r5, r6⟩ := k7_cells k5
  clear k4 k5
  go_upto_region 4 with (go_at_call 20; refine (learn_tf 1 2 3 (by omega) (by omega) O4.out.tab O4.out.low.2.1 O4.out.low.2.2).mono ?_; rintro e w4 ⟨l1, gv1, full1, hl1, rfl, ht1, hk1⟩)
  rw [s9c hl1] at ht1
  have O5 := Lib.hid (O4.out.after ht1 hk1)
  have K6 := Lib.hid (hk1.blk K4.out (.inr HCB.out))
  have K7 := Lib.hid (hk1.blk K5.out (.inr (Nat.le_succ_of_le HCB.out)))
  clear ht1 hk1 hl1 q0 q1 q2 q3 q4 q5 q6 r0 r1 r2 r3 r4 r5 r6
  have k6 := K6.out
  have k7 := K7.out
  rw [HKA.out] at k6
  rw [HKB.out] at k7
  obtain ⟨q0, q1, q2, q3, q4, q5, q6⟩ := k7_cells k6
  obtain ⟨r0, r1, r2, r3, r4, r5, r6⟩ := k7_cells k7
  clear k6 k7
  go_upto_region 5 with (go_at_call 20; refine (learn_tf 1 4 5 (by omega) (by omega) O5.out.tab O5.out.low.2.1 O5.out.low.2.2).mono ?_; rintro e w5 ⟨l2, gv2, full2, hl2, rfl, ht2, hk2⟩; rw [(s9d hl2).2.1, (s9d hl2).2.2])
  rw [(s9d hl2).1] at ht2
  have O6 := Lib.hid (O5.out.after ht2 hk2)
  have K8 := Lib.hid (hk2.blk K6.out (.inr HCB.out))
  have K9 := Lib.hid (hk2.blk K7.out (.inr (Nat.le_succ_of_le HCB.out)))
  clear ht2 hk2 hl2 q0 q1 q2 q3 q4 q5 q6 r0 r1 r2 r3 r4 r5 r6
  obtain ⟨W6, hW6⟩ : ∃ W6, W6 = w5.alloc (.cells #[.int .u16 1, .int .u8 (byteF 2 0 : Nat), .int .u8 (byteF 2 1 : Nat), .int .u8 (byteF 2 2 : Nat), .int .u8 (byteF 2 3 : Nat), .int .u8 (byteF 2 4 : Nat), .int .u8 (byteF 2 5 : Nat), .int .i64 3, .int .i64 0] 49) := ⟨_, rfl⟩
  have b6 : Below w5.heap.size w5 W6 := by rw [hW6]; exact (Below.refl _ _).alloc (Nat.le_refl _) _
  have O7 := Lib.hid (O6.out.next b6)
  have k6 := K8.out.below b6 K8.out.lt
  have K10 := Lib.hid k6
  have k7 := K9.out.below b6 K9.out.lt
  have K11 := Lib.hid k7
  have KG := Lib.hid (show Blk W6 w5.heap.size #[.int .u16 1, .int .u8 (byteF 2 0 : Nat), .int .u8 (byteF 2 1 : Nat), .int .u8 (byteF 2 2 : Nat), .int .u8 (byteF 2 3 : Nat), .int .u8 (byteF 2 4 : Nat), .int .u8 (byteF 2 5 : Nat), .int .i64 3, .int .i64 0] 49 by rw [hW6]; exact Blk.new _ _ _)
  rw [← hW6]
  clear hW6 b6
  generalize w5.heap.size = d at *
  rw [HKA.out] at k6
  rw [HKB.out] at k7
  obtain ⟨q0, q1, q2, q3, q4, q5, q6⟩ := k7_cells k6
  obtain ⟨r0, r1, r2, r3, r4, r5, r6⟩ := k7_cells k7
  clear k6 k7
  go_upto_region 6 with (go_at_call 18; refine (find_tf 1 4 (by omega) O7.out.tab).mono ?_; rintro e w7 ⟨hb7, hf7⟩; rw [s9e hf7])
  have O8 := Lib.hid (O7.out.next hb7)
  have k6 := K10.out.below hb7 K10.out.lt
  have kg := KG.out.below hb7 KG.out.lt
  clear hb7 hf7 q0 q1 q2 q3 q4 q5 q6 r0 r1 r2 r3 r4 r5 r6
  rw [HKA.out] at k6
  obtain ⟨q0, q1, q2, q3, q4, q5, q6⟩ := k7_cells k6
  obtain ⟨g0, g1, g2, g3, g4, g5, g6, g7, g8⟩ := c9_cells kg
  have heq : ∀ W : World, (Op.equalIn 10000 36 (.agg #[.int .u16 1, .int .u8 (byteF 2 0 : Nat), .int .u8 (byteF 2 1 : Nat), .int .u8 (byteF 2 2 : Nat), .int .u8 (byteF 2 3 : Nat), .int .u8 (byteF 2 4 : Nat), .int .u8 (byteF 2 5 : Nat)]) (.agg #[.int .u16 1, .int .u8 (byteF 2 0 : Nat), .int .u8 (byteF 2 1 : Nat), .int .u8 (byteF 2 2 : Nat), .int .u8 (byteF 2 3 : Nat), .int .u8 (byteF 2 4 : Nat), .int .u8 (byteF 2 5 : Nat)])).run Try.prog W = .ok true W := fun W => by
    have := ky_eq 1 1 (byteF 2) (byteF 2) W
    rw [show (decide (1 = 1) && eqMac (byteF 2) (byteF 2)) = true by decide] at this
    exact this
  clear k6 kg
  go_wp2_with (go_at_call 22; refine (list22 O8.out.tab (by decide)).mono ?_; rintro e w8 ⟨v8, rfl, hs8, hb8⟩; obtain ⟨A8, c8, rfl, -⟩ := src_rows enC_len (by decide) hs8; have O9 := Lib.hid (O8.out.next hb8))
  go_ret
  exact ⟨rfl, O9.out.below⟩
end Go.Proofs.Ytilklfmcdgggfaa
