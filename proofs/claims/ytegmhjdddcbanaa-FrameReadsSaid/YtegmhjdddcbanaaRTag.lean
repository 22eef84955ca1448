/- What readTag sets; and six bytes of a text. -/
import Derived.Test.YtegmhjdddcbanaaFrm
namespace Go.Proofs.Ytegmhjdddcbanaa
open Go.RowKit

theorem field_pcp (x : Nat) (h : x < 65536) : Nums.fieldN x 13 3 = x / 8192 := by
  unfold Nums.fieldN
  rw [if_pos (by unfold Nums.good; omega)]
  show x / 2 ^ 13 % 2 ^ 3 = _
  omega
theorem field_dei (x : Nat) : Nums.fieldN x 12 1 = x / 4096 % 2 := by
  unfold Nums.fieldN
  rw [if_pos (by unfold Nums.good; omega)]
  rfl
theorem field_vid (x : Nat) : Nums.fieldN x 0 12 = x % 4096 := by
  unfold Nums.fieldN
  rw [if_pos (by unfold Nums.good; omega)]
  show x / 2 ^ 0 % 2 ^ 12 = _
  omega

set_option maxRecDepth 100000 in
set_option maxHeartbeats 600000 in
theorem readTag_any (g x : Nat) (arr : Array Value) (w : World) (hx : x < 65536) (hr : Blk w g arr 52) (hz : arr.size = 18) :
    Calls Try.prog 42 #[.pointer (some ⟨g, 0, none⟩), .int .u16 x] w fun e w' => e = .returned (.tuple #[]) ∧ Blk w' g ((((arr.setIfInBounds 12 (.bool true)).setIfInBounds 13 (.int .u8 (x / 8192 : Nat))).setIfInBounds 14 (.bool (decide (x / 4096 % 2 = 1)))).setIfInBounds 15 (.int .u16 (x % 4096 : Nat))) 52 ∧ w.grownBy w' (some g) := by
  have hc : ∀ i, i < 18 → ∃ v, w.cell? ⟨g, i, none⟩ = some v := fun i hi => ⟨arr[i]'(by omega), by rw [hr.cell i, Array.getElem?_eq_getElem (by omega)]⟩
  obtain ⟨v12, c12⟩ := hc 12 (by omega)
  obtain ⟨v13, c13⟩ := hc 13 (by omega)
  obtain ⟨v14, c14⟩ := hc 14 (by omega)
  obtain ⟨v15, c15⟩ := hc 15 (by omega)
  have f12 := hr.free 12
  have f13 := hr.free 13
  have f14 := hr.free 14
  have f15 := hr.free 15
  obtain ⟨p, hp⟩ : ∃ p, p = x / 8192 := ⟨_, rfl⟩
  obtain ⟨e, he⟩ : ∃ e, e = x / 4096 % 2 := ⟨_, rfl⟩
  obtain ⟨v, hv⟩ : ∃ v, v = x % 4096 := ⟨_, rfl⟩
  have lp : p < 256 := by omega
  have lv : v < 65536 := by omega
  have K1 := Lib.hid (show Nums.fieldN x 13 3 = p by rw [hp]; exact field_pcp x hx)
  have K2 := Lib.hid (show Nums.fieldN x 12 1 = e by rw [he]; exact field_dei x)
  have K3 := Lib.hid (show Nums.fieldN x 0 12 = v by rw [hv]; exact field_vid x)
  rw [← hp, ← he, ← hv]
  have HR := Lib.hid hr
  have hxI : (x : Int) < 65536 := by omega
  clear hc hp he hv hr hz
  go_enter Try.func42, Try.ntmps42
  go_wp2_with (first
    | (go_at_call 30; (with_reducible refine (field_any x 13 3 _ (by omega)).mono ?_); rintro e w' ⟨rfl, rfl⟩; rw [K1.out])
    | (go_at_call 30; (with_reducible refine (field_any x 12 1 _ (by omega)).mono ?_); rintro e w' ⟨rfl, rfl⟩; rw [K2.out])
    | (go_at_call 30; (with_reducible refine (field_any x 0 12 _ (by omega)).mono ?_); rintro e w' ⟨rfl, rfl⟩; rw [K3.out]))
  have he1 : ((e : Int) == 1) = decide (e = 1) := by
    by_cases c : e = 1
    · subst c; rfl
    · rw [decide_eq_false c]; simp; omega
  rw [he1]
  go_end0
  exact ⟨rfl, (((HR.out.set 12 _).set 13 _).set 14 _).set 15 _, grown_trans (grown_trans (grown_trans (setCell_grown _ _ _) (setCell_grown _ _ _)) (setCell_grown _ _ _)) (setCell_grown _ _ _)⟩

/-- A byte of a text, as six bytes have it. -/
def byteAt' (s : ByteArray) (i : Nat) : Nat := (s.data.toList.getD i 0).toNat

theorem byteAt_get (s : ByteArray) (i : Nat) (h : i < s.size) : (s[i].toNat) = byteAt' s i := by
  have h1 : i < s.data.toList.length := by rw [Array.length_toList]; exact h
  simp only [byteAt', List.getD_eq_getElem?_getD]
  rw [List.getElem?_eq_getElem h1]
  rfl

theorem byteAt_lt (s : ByteArray) (i : Nat) : byteAt' s i < 256 := (s.data.toList.getD i 0).toNat_lt

/-- The first k of them. -/
def firstF (s : ByteArray) (k i : Nat) : Nat := if i < k then byteAt' s i else 0

theorem firstF_step (s : ByteArray) (k : Nat) (hk : k < 6) : (macA (firstF s k)).setIfInBounds k (.int .u8 (byteAt' s k : Nat)) = macA (firstF s (k + 1)) := by
  rw [macA_set _ _ _ hk]
  apply macA_congr
  intro i hi
  unfold firstF
  by_cases c : i = k
  · subst c
    rw [if_pos rfl, if_pos (by omega)]
  · rw [if_neg c]
    by_cases d : i < k
    · rw [if_pos d, if_pos (by omega)]
    · rw [if_neg d, if_neg (by omega)]

set_option maxHeartbeats 1000000 in
theorem six_any (s : ByteArray) (w : World) (hs : s.size = 6) : Calls Try.prog 46 #[.string s] w fun e w' => e = .returned (mac (byteAt' s)) ∧ Below w.heap.size w w' := by
  obtain ⟨W, hW⟩ : ∃ W, W = (w.alloc (Obj.cells nil6 22)).alloc (Obj.cells nil6 22) := ⟨_, rfl⟩
  have hB : Below w.heap.size w W := by rw [hW]; exact ((Below.refl _ _).alloc (Nat.le_refl _) _).alloc (by simp) _
  have r0 : Blk W w.heap.size nil6 22 := by rw [hW]; exact (Blk.new _ _ _).alloc _
  have r1 : Blk W (w.heap.size + 1) nil6 22 := by
    rw [hW]
    have := Blk.new (w.alloc (Obj.cells nil6 22)) nil6 22
    rwa [show (w.alloc (Obj.cells nil6 22)).heap.size = w.heap.size + 1 by simp] at this
  have HW := Lib.hid hW
  have HS := Lib.hid hs
  clear hW hs
  go_enter Try.func46, Try.ntmps46
  go_wp2_with (fail)
  simp only [nil6] at HW
  rw [← HW.out]
  generalize hBe : w.heap.size = B at *
  have HB := Lib.hid hBe
  clear hBe HW
  go_loopw [4] (fun i wr => ∃ k : Nat, k ≤ 6 ∧ i = .int .i64 (k : Int) ∧ Below B w wr ∧ Blk wr B nil6 22 ∧ Blk wr (B + 1) (macA (firstF s k)) 22) (fun i _ => 6 - (intOf i).toNat)
  case atStart => exact ⟨0, by omega, rfl, hB, r0, r1⟩
  case round =>
    obtain ⟨k, hk, rfl, hb, h0, h1⟩ := hrel
    clear r0 r1 hB
    by_cases hlt : k < 6
    · have hst := Lib.hid (h1.set k (.int .u8 (byteAt' s k : Nat)))
      have hc : wr.cell? ⟨B + 1, k, none⟩ = some (.int .u8 (firstF s k k : Nat)) := by rw [h1.cell]; exact mac_at _ _ hlt
      have hf := h1.free k
      have hd := Lib.hid (h0.other (a := ⟨B + 1, k, none⟩) (by simp) (.int .u8 (byteAt' s k : Nat)))
      have hks : k < s.size := by have := HS.out; omega
      have hksI : (k : Int) < (s.size : Int) := by omega
      have hg := Lib.hid (byteAt_get s k hks)
      have hstep := Lib.hid (firstF_step s k hlt)
      clear h0 h1
      go_wp2
      go_roundw
      case rel =>
        refine ⟨k + 1, by omega, by go_num, hb.setCell (by simp) _, ?_, ?_⟩
        · rw [hg.out]; exact hd.out
        · rw [hg.out, ← hstep.out]; exact hst.out
      case measure => simp [intOf]; omega
    · have hk6 : k = 6 := by omega
      subst hk6
      have hi := Lib.hid size22
      have ho := Lib.hid (macA_one (firstF s 6))
      have R4 := Lib.hid h0
      have R5 := Lib.hid h1
      have hm := Lib.hid (show mac (firstF s 6) = mac (byteAt' s) from mac_congr fun i hi => by unfold firstF; rw [if_pos hi])
      clear h0 h1
      go_wp2_with (first
        | (refine wpList_load_row rfl 22 _ rfl (B + 1) rfl 22 _ (0, 0) _ R5.out Try.underlying22 rfl hi.out ?_)
        | (refine wpList_store_row rfl 22 _ _ rfl B (macA (firstF s 6)) rfl rfl 22 nil6 R4.out hi.out rfl ho.out ?_))
      exact bodyPost_ret (v := mac (firstF s 6)) (results_cell_row Try.results46 _ _ B 22 (macA (firstF s 6)) (0, 0) _ rfl (R4.out.row _) Try.underlying22 rfl hi.out) rfl ⟨by rw [hm.out], by rw [HB.out]; exact below_setRow hb (Nat.le_refl _) _⟩
end Go.Proofs.Ytegmhjdddcbanaa
