/- packFlags: a byte's number of eight flags, in whatever order the map is gone through. -/
import Derived.Test.YtkohnleeiajiiaaFlags
namespace Go.Proofs.Ytkohnleeiajiiaa
open Go.RowKit Go.Maps
set_option linter.unusedSimpArgs false

/-- The number of those flags that are no longer to come. -/
def partT (v : Nat → Nat) (l : Lit → Bool) (i : Nat) : Nat := if l (kl i) = true then 0 else v i
def partN (v : Nat → Nat) (l : Lit → Bool) : Nat := partT v l 0 + 2 * partT v l 1 + 4 * partT v l 2 + 8 * partT v l 3 + 16 * partT v l 4 + 32 * partT v l 5 + 64 * partT v l 6 + 128 * partT v l 7
def packN (v : Nat → Nat) : Nat := v 0 + 2 * v 1 + 4 * v 2 + 8 * v 3 + 16 * v 4 + 32 * v 5 + 64 * v 6 + 128 * v 7

theorem partT_lt {v : Nat → Nat} (hv : ∀ j, v j < 2) (l : Lit → Bool) (i : Nat) : partT v l i < 2 := by
  unfold partT
  split
  · omega
  · exact hv i

theorem partN_lt {v : Nat → Nat} (hv : ∀ j, v j < 2) (l : Lit → Bool) : partN v l < 256 := by
  have h := partT_lt hv l
  have h0 := h 0; have h1 := h 1; have h2 := h 2; have h3 := h 3; have h4 := h 4; have h5 := h 5; have h6 := h 6; have h7 := h 7
  unfold partN
  omega

theorem partN_bit {v : Nat → Nat} (hv : ∀ j, v j < 2) (l : Lit → Bool) (j : Nat) (hj : j < 8) (h : l (kl j) = true) : partN v l / 2 ^ j % 2 = 0 := by
  have h' := partT_lt hv l
  have h0 := h' 0; have h1 := h' 1; have h2 := h' 2; have h3 := h' 3; have h4 := h' 4; have h5 := h' 5; have h6 := h' 6; have h7 := h' 7
  have hz : partT v l j = 0 := by unfold partT; rw [if_pos h]
  unfold partN
  match j, hj with
  | 0, _ => simp only [Nat.pow_zero]; omega
  | 1, _ => simp only [Nat.reducePow]; omega
  | 2, _ => simp only [Nat.reducePow]; omega
  | 3, _ => simp only [Nat.reducePow]; omega
  | 4, _ => simp only [Nat.reducePow]; omega
  | 5, _ => simp only [Nat.reducePow]; omega
  | 6, _ => simp only [Nat.reducePow]; omega
  | 7, _ => simp only [Nat.reducePow]; omega

theorem with_one (n j b : Nat) (hn : n < 256) (hj : j < 8) (hb : b < 2) (h : n / 2 ^ j % 2 = 0) : Nums.withN n (j : Nat) 1 b = n + b * 2 ^ j := by
  have key : ∀ (n : Fin 256) (j : Fin 8) (b : Fin 2), n.val / 2 ^ j.val % 2 = 0 → Nums.withN n.val (j.val : Nat) 1 b.val = n.val + b.val * 2 ^ j.val := by decide +kernel
  exact key ⟨n, hn⟩ ⟨j, hj⟩ ⟨b, hb⟩ h

theorem same_kl (i j : Nat) : (kl i).sameKey (kl j) = decide (i = j) := by
  rw [Bool.eq_iff_iff]
  simp [kl, Lit.sameKey]
  try omega

theorem partT_step (v : Nat → Nat) (l : Lit → Bool) (i j : Nat) (h : l (kl j) = true) : partT v (fun z => l z && !z.sameKey (kl j)) i = partT v l i + if i = j then v j else 0 := by
  unfold partT
  by_cases c : i = j
  · subst c
    simp [same_kl, h]
  · simp [same_kl, c]

theorem partN_step (v : Nat → Nat) (l : Lit → Bool) (j : Nat) (hj : j < 8) (h : l (kl j) = true) : partN v (fun z => l z && !z.sameKey (kl j)) = partN v l + v j * 2 ^ j := by
  unfold partN
  rw [partT_step v l 0 j h, partT_step v l 1 j h, partT_step v l 2 j h, partT_step v l 3 j h, partT_step v l 4 j h, partT_step v l 5 j h, partT_step v l 6 j h, partT_step v l 7 j h]
  match j, hj with
  | 0, _ => simp; omega
  | 1, _ => simp; omega
  | 2, _ => simp; omega
  | 3, _ => simp; omega
  | 4, _ => simp; omega
  | 5, _ => simp; omega
  | 6, _ => simp; omega
  | 7, _ => simp; omega

theorem partN_end (v : Nat → Nat) (l : Lit → Bool) (h : ∀ k, l k = false) : partN v l = packN v := by
  unfold partN packN partT
  simp [h]

theorem all8 (j : Nat) (hj : j < 8) : [true, true, true, true, true, true, true, true].getD j false = true := by
  match j, hj with
  | 0, _ => rfl
  | 1, _ => rfl
  | 2, _ => rfl
  | 3, _ => rfl
  | 4, _ => rfl
  | 5, _ => rfl
  | 6, _ => rfl
  | 7, _ => rfl

set_option maxRecDepth 100000 in
set_option maxHeartbeats 4000000 in
theorem pack_any (b : Nat) (v : Nat → Nat) (w : World) (h : MapAt w b v [true, true, true, true, true, true, true, true]) (hv : ∀ j, v j < 2) :
    Calls Try.prog 43 #[.map (some b)] w fun e w' => e = .returned (.int .u64 (packN v : Nat)) ∧ Below w.heap.size w w' := by
  obtain ⟨D, n, hown, -, -, -, h1, h2⟩ := h
  have hbl := hown.lt
  have HV := Lib.hid hv
  have H1 := Lib.hid h1
  have H2 := Lib.hid h2
  clear hv h1 h2
  go_enter Try.func43, Try.ntmps43
  go_wp2_with (first
    | (at_range; refine wpList_range_own _ rfl _ 90 rfl 3 22 law3 Try.underlying90 _ b n _ rfl hown ?_; intro w0 hrg0 hg0 hs0))
  go_frame
  have hstart : partN v (Maps.has D) = 0 := by
    have e : ∀ j, j < 8 → Maps.has D (kl j) = true := fun j hj => (H2.out j hj (all8 j hj)).1
    unfold partN partT
    rw [if_pos (e 0 (by omega)), if_pos (e 1 (by omega)), if_pos (e 2 (by omega)), if_pos (e 3 (by omega)), if_pos (e 4 (by omega)), if_pos (e 5 (by omega)), if_pos (e 6 (by omega)), if_pos (e 7 (by omega))]
  go_loopw [3] (fun s3 wr => ∃ (left : Lit → Bool) (cnt : Nat), s3 = .int .u64 (partN v left : Nat) ∧ wr.ranges Try.prog 3 (plainElem Try.prog 22) b w.heap.size n D left cnt ∧ (∀ k, left k = true → Maps.has D k = true) ∧ Below w.heap.size w wr)
    (fun _ wr => wr.rangeLeft b w.heap.size)
  case atStart => exact ⟨_, _, by rw [hstart]; rfl, hrg0, fun _ h => h, (Below.refl _ _).grown hg0 (Nat.le_refl _) (fun j hj => by cases hj)⟩
  case round =>
    obtain ⟨left, cnt, rfl, hrg, hsub, hnx⟩ := hrel
    clear hstart
    have HS := Lib.hid hsub
    clear hsub
    go_wp2_with (first
      | (at_next; refine wpList_next_ranges_ii _ rfl _ rfl 3 22 .i64 .u64 law3 Try.underlying3 Try.underlying22 b w.heap.size n _ _ _ rfl hrg ?_ ?_))
    · intro hc0 hl0
      have E := Lib.hid (partN_end v left hl0)
      clear hl0
      go_wp2
      go_ret
      exact ⟨ret_int (by rw [E.out]), hnx⟩
    · intro x c w1 cnt1 hwx hwc hlx hat hrg1 hlt hg1 hs1 hen
      obtain ⟨j, hj, -, hk⟩ := H1.out _ (HS.out _ hlx)
      have hxj : x = (j : Int) := by
        injection hk
      subst hxj
      have hat2 := (H2.out j hj (all8 j hj)).2 (.lit (.int .u64 0))
      rw [hat] at hat2
      have hcv : c = (v j : Int) := by
        injection hat2 with e1
        injection e1
      subst hcv
      have W := Lib.hid (with_one (partN v left) j (v j) (partN_lt HV.out left) hj (HV.out j) (partN_bit HV.out left j hj hlx))
      have ST := Lib.hid (partN_step v left j hj hlx)
      have hpl := partN_lt HV.out left
      have HAT := Lib.hid hat
      clear hat hat2 hk
      go_wp2_with (first
        | (go_at_call 49; refine (with_any (partN v left) (j : Int) 1 (v j) _ (by omega)).mono ?_; rintro e w2 ⟨rfl, rfl⟩; rw [W.out, ← ST.out]))
      go_roundw
      case rel => exact ⟨_, cnt1, rfl, hrg1, fun k hk => HS.out k (by simp at hk; exact hk.1), hnx.grown hg1 hnx.size (fun q hq => by cases hq; exact Nat.le_refl _)⟩
      case measure => rw [hrg1.left_eq, hrg.left_eq]; exact hlt
end Go.Proofs.Ytkohnleeiajiiaa
