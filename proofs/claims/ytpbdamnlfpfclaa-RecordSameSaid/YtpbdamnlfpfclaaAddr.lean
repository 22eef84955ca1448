/- What the functions of package addr do that make no text, and the document's own answers for them. -/
import Derived.Test.YtpbdamnlfpfclaaBlk
import Derived.Deep.QuietTactic
import Derived.BigQuiet
import Derived.Deep.RegionWith
import Derived.Deep.DeepCutAuto
namespace Go.Proofs.Ytpbdamnlfpfclaa
open Go.RowKit

/-- Six noughts. -/
abbrev nil6 : Array Value := #[.int .u8 0, .int .u8 0, .int .u8 0, .int .u8 0, .int .u8 0, .int .u8 0]

theorem size25 : (Try.prog.info? 56).map (·.size) = some 6 := by kernel_rfl
theorem size22 : (Try.prog.info? 55).map (·.size) = some 6 := by kernel_rfl
theorem macA_one (m : Nat → Nat) : (macA m).all (·.oneCell') = true := by simp [Value.oneCell']

set_option maxHeartbeats 1000000 in
theorem fromInt_any (x : Nat) (w : World) : Calls Try.prog 13 #[.int .u64 x] w fun e w' => e = .returned (mac (byteF x)) ∧ Below w.heap.size w w' := by
  obtain ⟨W, hW⟩ : ∃ W, W = (w.alloc (Obj.cells nil6 56)).alloc (Obj.cells nil6 56) := ⟨_, rfl⟩
  have hB : Below w.heap.size w W := by rw [hW]; exact ((Below.refl _ _).alloc (Nat.le_refl _) _).alloc (by simp) _
  have hS : W.heap.size = w.heap.size + 2 := by rw [hW]; simp
  have r0 : Blk W w.heap.size nil6 56 := by rw [hW]; exact (Blk.new _ _ _).alloc _
  have r1 : Blk W (w.heap.size + 1) nil6 56 := by
    rw [hW]
    have := Blk.new (w.alloc (Obj.cells nil6 56)) nil6 56
    rwa [show (w.alloc (Obj.cells nil6 56)).heap.size = w.heap.size + 1 by simp] at this
  have HW := Lib.hid hW
  have HS := Lib.hid hS
  clear hW hS
  go_enter Try.func13, Try.ntmps13
  go_wp2_with (fail)
  simp only [nil6] at HW
  rw [← HW.out]
  generalize hBe : w.heap.size = B at *
  have HB := Lib.hid hBe
  clear hBe HW
  go_region_with (first
    | (go_at_call 23; refine (bytes_yes x 6 _ (by omega) (by omega)).mono ?_; rintro e w1 ⟨rfl, hb1⟩
       have r2 : Blk w1 B nil6 56 := Blk.below (Blk.drew r0) hb1 (by have := HS.out; simp; omega)
       have r3 : Blk w1 (B + 1) nil6 56 := Blk.below (Blk.drew r1) hb1 (by have := HS.out; simp; omega)
       have hcopy := copy_six w1 (B + 1) x 3 nil6 rfl r3))
  have r4 := r2.rowOther (k := B + 1) (by omega) (macA (byteF x))
  have r5 := r3.row (macA (byteF x))
  have hB2 : Below B w (w1.setRow (B + 1) (macA (byteF x))) := by
    refine below_setRow (hB.drew.trans (hb1.mono ?_)) (by omega) _
    have := HS.out
    simp
    omega
  clear hcopy r0 r1 r2 r3 hb1 hB
  generalize w1.setRow (B + 1) (macA (byteF x)) = w2 at *
  have hi := Lib.hid size25
  have ho := Lib.hid (macA_one (byteF x))
  have R4 := Lib.hid r4
  have R5 := Lib.hid r5
  clear r4 r5
  go_wp2_with (first
    | (refine wpList_load_row rfl 56 _ rfl (B + 1) rfl 56 _ (0, 0) _ R5.out Try.underlying56 rfl hi.out ?_)
    | (refine wpList_store_row rfl 56 _ _ rfl B (macA (byteF x)) rfl rfl 56 nil6 R4.out hi.out rfl ho.out ?_))
  exact bodyPost_ret (v := mac (byteF x)) (results_cell_row Try.results13 _ _ B 56 (macA (byteF x)) (0, 0) _ rfl (R4.out.row _) Try.underlying56 rfl hi.out) rfl ⟨rfl, by rw [HB.out]; exact below_setRow hB2 (Nat.le_refl _) _⟩

theorem macA_set (f : Nat → Nat) (k v : Nat) (hk : k < 6) : (macA f).setIfInBounds k (.int .u8 (v : Nat)) = macA (fun i => if i = k then v else f i) := by
  match k, hk with
  | 0, _ => rfl
  | 1, _ => rfl
  | 2, _ => rfl
  | 3, _ => rfl
  | 4, _ => rfl
  | 5, _ => rfl

theorem macA_congr {f g : Nat → Nat} (h : ∀ i, i < 6 → f i = g i) : macA f = macA g := by
  unfold macA
  rw [h 0 (by omega), h 1 (by omega), h 2 (by omega), h 3 (by omega), h 4 (by omega), h 5 (by omega)]

theorem mac_congr {f g : Nat → Nat} (h : ∀ i, i < 6 → f i = g i) : mac f = mac g := by
  unfold mac
  rw [h 0 (by omega), h 1 (by omega), h 2 (by omega), h 3 (by omega), h 4 (by omega), h 5 (by omega)]

/-- The last j bytes of a number. -/
def lastF (x j i : Nat) : Nat := if 6 ≤ i + j then byteF x i else 0

theorem lastF_zero (x : Nat) : nil6 = macA (lastF x 0) := rfl

theorem lastF_step (x j : Nat) (hj : j < 6) : (macA (lastF x j)).setIfInBounds (5 - j) (.int .u8 ((x / 256 ^ j % 256 : Nat) : Int)) = macA (lastF x (j + 1)) := by
  rw [macA_set _ _ _ (by omega)]
  apply macA_congr
  intro i hi
  unfold lastF byteF
  by_cases c : i = 5 - j
  · subst c
    rw [if_pos rfl, if_pos (by omega), show 5 - (5 - j) = j by omega]
  · rw [if_neg c]
    by_cases d : 6 ≤ i + j
    · rw [if_pos d, if_pos (by omega)]
    · rw [if_neg d, if_neg (by omega)]

theorem rfrom_val (x j : Nat) : Value.int .u8 (((x : Int) / 256 ^ j).tmod 256 % 256) = .int .u8 ((x / 256 ^ j % 256 : Nat) : Int) := by
  have c : (x : Int) / 256 ^ j = ((x / 256 ^ j : Nat) : Int) := by simp
  rw [c]
  generalize x / 256 ^ j = y
  rw [Int.tmod_eq_emod_of_nonneg (by omega)]
  congr 1
  omega

end Go.Proofs.Ytpbdamnlfpfclaa
