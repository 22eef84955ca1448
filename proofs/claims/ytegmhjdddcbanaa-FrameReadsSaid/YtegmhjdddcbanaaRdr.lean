/- A reader's numbers, whether there are enough bytes or not; and what package frame reads with it. -/
import Derived.Test.YtegmhjdddcbanaaAddr
namespace Go.Proofs.Ytegmhjdddcbanaa
open Go.RowKit

/-- Are there k bytes left? -/
def enough (rest : ByteArray) (sh : Bool) (k : Nat) : Prop := sh = false ∧ k ≤ rest.size
instance (rest : ByteArray) (sh : Bool) (k : Nat) : Decidable (enough rest sh k) := by unfold enough; infer_instance

/-- The number that is read; what is left; is it short then? -/
def nV (rest : ByteArray) (sh : Bool) (k : Nat) : Nat := if enough rest sh k then Nums.numL (rest.extract 0 k).data.toList else 0
def nR (rest : ByteArray) (sh : Bool) (k : Nat) : ByteArray := if enough rest sh k then rest.extract k rest.size else rest
def nS (rest : ByteArray) (sh : Bool) (k : Nat) : Bool := if enough rest sh k then false else true

theorem num_any (g k : Nat) (rest : ByteArray) (sh : Bool) (w : World) (h : Rd w g rest sh) (h1 : 1 ≤ k) (h8 : k ≤ 8) :
    Calls Try.prog 51 #[.pointer (some ⟨g, 0, none⟩), .int .i64 k] w fun e w' => e = .returned (.int .u64 (nV rest sh k : Nat)) ∧ Rd w' g (nR rest sh k) (nS rest sh k) ∧ w.grownBy w' (some g) := by
  by_cases c : enough rest sh k
  · have e1 : nV rest sh k = Nums.numL (rest.extract 0 k).data.toList := by unfold nV; rw [if_pos c]
    have e2 : nR rest sh k = rest.extract k rest.size := by unfold nR; rw [if_pos c]
    have e3 : nS rest sh k = false := by unfold nS; rw [if_pos c]
    rw [e1, e2, e3]
    obtain ⟨c1, c2⟩ := c
    subst c1
    exact num_good g k rest w h h1 h8 c2
  · have e1 : nV rest sh k = 0 := by unfold nV; rw [if_neg c]
    have e2 : nR rest sh k = rest := by unfold nR; rw [if_neg c]
    have e3 : nS rest sh k = true := by unfold nS; rw [if_neg c]
    rw [e1, e2, e3]
    refine num_bad g k rest sh w h (by omega) (by omega) ?_
    unfold enough at c
    cases sh with
    | true => exact .inl rfl
    | false => right; right; simp at c; omega

theorem nV_lt (rest : ByteArray) (sh : Bool) (k : Nat) : nV rest sh k < 256 ^ k := by
  unfold nV
  split
  · rename_i c
    have := Nums.numL_lt (rest.extract 0 k).data.toList
    have hl : (rest.extract 0 k).data.toList.length ≤ k := by simp; omega
    exact Nat.lt_of_lt_of_le this (Nat.pow_le_pow_right (by omega) hl)
  · exact Nat.pos_of_neZero _

set_option maxHeartbeats 1000000 in
theorem readAddress_any (g : Nat) (rest : ByteArray) (sh : Bool) (w : World) (h : Rd w g rest sh) :
    Calls Try.prog 40 #[.pointer (some ⟨g, 0, none⟩)] w fun e w' => e = .returned (mac (byteF (nV rest sh 6))) ∧ Rd w' g (nR rest sh 6) (nS rest sh 6) ∧ w.grownBy w' (some g) := by
  obtain ⟨x, hx⟩ : ∃ x, x = nV rest sh 6 := ⟨_, rfl⟩
  have hgl := Has.lt h (by simp)
  have r0 := Blk.new w nil6 25
  have ga := World.grownBy_alloc w (Obj.cells nil6 25) (some g)
  have h' : Rd (w.alloc (.cells nil6 25)) g rest sh := Has.grown h (World.grownBy_alloc w (Obj.cells nil6 25) none) (by simp)
  have hi := Lib.hid size25
  have ho := Lib.hid (macA_one (byteF x))
  have R := Lib.hid r0
  have X := Lib.hid hx
  clear r0 hx
  go_enter Try.func40, Try.ntmps40
  go_wp2_with (first
    | (go_at_call 51; refine (num_any g 6 rest sh _ h' (by omega) (by omega)).mono ?_; rintro e w1 ⟨rfl, hr1, hg1⟩; rw [← X.out]
       have R1 := Lib.hid (R.out.grown hg1 (by simp; omega)))
    | (go_at_call 13; refine (fromInt_any x _).mono ?_; rintro e w2 ⟨rfl, hb2⟩
       have R2 := Lib.hid (R1.out.below hb2 R1.out.lt))
    | (refine wpList_store_row rfl 25 _ _ rfl w.heap.size (macA (byteF x)) rfl rfl 25 nil6 R2.out hi.out rfl ho.out ?_))
  have hr2 : Rd w2 g (nR rest sh 6) (nS rest sh 6) := Has.below hr1 hb2 (Has.lt hr1 (by simp))
  have hG : w.grownBy (w2.setRow w.heap.size (macA (byteF x))) (some g) := by
    have g2 := grown_trans ga (grown_trans hg1 (Below.grownBy hb2 (some g)))
    exact ⟨g2.os, g2.tape, g2.output, by simpa using g2.size, fun q hq hne => (setRow_other w2 w.heap.size q _ (by omega)).trans (g2.block q hq hne)⟩
  refine bodyPost_ret (v := mac (byteF x)) (results_cell_row Try.results40 _ _ w.heap.size 25 (macA (byteF x)) (0, 0) _ rfl (R2.out.row _) Try.underlying25 rfl hi.out) rfl ⟨by rw [X.out], ?_, hG⟩
  intro j hj
  obtain ⟨a1, a2⟩ := hr2 j hj
  have hq := setRow_other w2 w.heap.size g (macA (byteF x)) (by omega)
  exact ⟨by rw [World.cell?_of_block (w := w2) (a := ⟨g, j, none⟩) hq, a1], by rw [World.frozen?_of_block (w := w2) (a := ⟨g, j, none⟩) hq, a2]⟩

set_option maxHeartbeats 400000 in
theorem readWord_any (g : Nat) (rest : ByteArray) (sh : Bool) (w : World) (h : Rd w g rest sh) :
    Calls Try.prog 41 #[.pointer (some ⟨g, 0, none⟩)] w fun e w' => e = .returned (.int .u16 (nV rest sh 2 : Nat)) ∧ Rd w' g (nR rest sh 2) (nS rest sh 2) ∧ w.grownBy w' (some g) := by
  have hl := nV_lt rest sh 2
  generalize hx : nV rest sh 2 = x at *
  have X := Lib.hid hx
  clear hx
  go_enter Try.func41, Try.ntmps41
  go_wp2_with (first
    | (go_at_call 51; refine (num_any g 2 rest sh _ h (by omega) (by omega)).mono ?_; rintro e w1 ⟨rfl, hr1, hg1⟩; rw [X.out]))
  go_ret
  exact ⟨rfl, hr1, hg1⟩
end Go.Proofs.Ytegmhjdddcbanaa
