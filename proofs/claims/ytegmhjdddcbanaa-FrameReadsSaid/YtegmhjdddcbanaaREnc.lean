/- The document's own answer: a frame's bytes, or why it has none. -/
import Derived.Test.YtegmhjdddcbanaaEnc2
namespace Go.Proofs.Ytegmhjdddcbanaa
open Go.RowKit

/-- The first bytes as a text. -/
def textP (m : Nat → Nat) (k : Nat) : List UInt8 := (List.range k).map fun i => UInt8.ofNat (m i)

theorem textP_step (m : Nat → Nat) (k : Nat) : Value.string ((⟨(textP m k).toArray⟩ : ByteArray) ++ ⟨#[UInt8.ofNat (m k)]⟩) = Value.string ⟨(textP m (k + 1)).toArray⟩ := by
  congr 1
  apply ByteArray.ext
  apply Array.ext'
  simp [textP, List.range_succ]

set_option maxHeartbeats 1000000 in
theorem text_any (m : Nat → Nat) (w : World) (hm : Six m) : Calls Try.prog 37 #[mac m] w fun e w' => e = .returned (.string ⟨(six6 m).toArray⟩) ∧ Below w.heap.size w w' := by
  obtain ⟨W, hW⟩ : ∃ W, W = w.alloc (Obj.cells (macA m) 22) := ⟨_, rfl⟩
  have rb : Blk W w.heap.size (macA m) 22 := by rw [hW]; exact Blk.new _ _ _
  have hb1 : Below w.heap.size w W := by rw [hW]; exact (Below.refl _ _).alloc (Nat.le_refl _) _
  have HW := Lib.hid hW
  have H := Lib.hid hm
  clear hW hm
  go_enter Try.func37, Try.ntmps37
  go_wp2_with fail
  simp only [macA] at HW
  rw [← HW.out]
  clear HW
  generalize hBe : w.heap.size = B at *
  have HB := Lib.hid hBe
  clear hBe
  go_loopw [3, 4] (fun o i wr => ∃ k : Nat, k ≤ 6 ∧ i = .int .i64 (k : Int) ∧ o = .string ⟨(textP m k).toArray⟩ ∧ Below B w wr ∧ Blk wr B (macA m) 22) (fun _ i _ => 6 - (intOf i).toNat)
  case atStart => exact ⟨0, by omega, rfl, rfl, hb1, rb⟩
  case round =>
    obtain ⟨k, hk, rfl, rfl, hb, hr⟩ := hrel
    have HR := Lib.hid hr
    clear hr hb1 rb
    by_cases hlt : k < 6
    · have hm := H.out.at k hlt
      have hc := HR.out.cell k
      rw [mac_at m k hlt] at hc
      have hrun := one_text wr (m k : Int) (UInt8.ofNat (m k)) (by simp; omega)
      have hcat : 1 + (textP m k).length ≤ 9223372036854775807 := by simp [textP]; omega
      have hadd := hadd ⟨(textP m k).toArray⟩ ⟨#[UInt8.ofNat (m k)]⟩ (by show (textP m k).toArray.size + 1 ≤ _; simp [textP]; omega)
      have h2 := Lib.hid (textP_step m k)
      have hs := HR.out.lt
      go_wp2_with fail
      go_roundw
      case rel => exact ⟨k + 1, by omega, by go_num, h2.out, hb.alloc (Nat.le_of_lt hs) _, HR.out.alloc _⟩
      case measure => simp [intOf]; omega
    · have hk6 : k = 6 := by omega
      subst hk6
      go_wp2_with fail
      go_ret
      exact ⟨rfl, by rw [HB.out]; exact hb⟩

/-- A frame of the document's in memory; and nothing that was there has changed. -/
structure Gq (w0 : World) (g : Nat) (d s : Nat → Nat) (tg : Bool) (pc : Nat) (de : Bool) (vi ty : Nat) (da : ByteArray) (w : World) : Prop where
  row : Blk w g (frA d s tg pc de vi ty da) 56
  below : Below g w0 w

theorem Gq.next {w0 : World} {g : Nat} {d s : Nat → Nat} {tg : Bool} {pc : Nat} {de : Bool} {vi ty : Nat} {da : ByteArray} {w : World} {w' : World} (h : Gq w0 g d s tg pc de vi ty da w) (hb : Below w.heap.size w w') : Gq w0 g d s tg pc de vi ty da w' :=
  ⟨h.row.below hb h.row.lt, h.below.trans (hb.mono (Nat.le_of_lt h.row.lt))⟩
theorem Gq.drew {w0 : World} {g : Nat} {d s : Nat → Nat} {tg : Bool} {pc : Nat} {de : Bool} {vi ty : Nat} {da : ByteArray} {w : World} (h : Gq w0 g d s tg pc de vi ty da w) : Gq w0 g d s tg pc de vi ty da w.drew := ⟨h.row.drew, h.below.drew⟩
theorem Gq.macs {w0 : World} {g : Nat} {d s : Nat → Nat} {tg : Bool} {pc : Nat} {de : Bool} {vi ty : Nat} {da : ByteArray} {w : World} (h : Gq w0 g d s tg pc de vi ty da w) : w.cell? ⟨g, 0, none⟩ = some (.int .u8 (d 0 : Nat)) ∧ w.cell? ⟨g, 1, none⟩ = some (.int .u8 (d 1 : Nat)) ∧ w.cell? ⟨g, 2, none⟩ = some (.int .u8 (d 2 : Nat)) ∧ w.cell? ⟨g, 3, none⟩ = some (.int .u8 (d 3 : Nat)) ∧ w.cell? ⟨g, 4, none⟩ = some (.int .u8 (d 4 : Nat)) ∧ w.cell? ⟨g, 5, none⟩ = some (.int .u8 (d 5 : Nat)) ∧ w.cell? ⟨g, 6, none⟩ = some (.int .u8 (s 0 : Nat)) ∧ w.cell? ⟨g, 7, none⟩ = some (.int .u8 (s 1 : Nat)) ∧ w.cell? ⟨g, 8, none⟩ = some (.int .u8 (s 2 : Nat)) ∧ w.cell? ⟨g, 9, none⟩ = some (.int .u8 (s 3 : Nat)) ∧ w.cell? ⟨g, 10, none⟩ = some (.int .u8 (s 4 : Nat)) ∧ w.cell? ⟨g, 11, none⟩ = some (.int .u8 (s 5 : Nat)) ∧ Gq w0 g d s tg pc de vi ty da w :=
  ⟨h.row.cell 0, h.row.cell 1, h.row.cell 2, h.row.cell 3, h.row.cell 4, h.row.cell 5, h.row.cell 6, h.row.cell 7, h.row.cell 8, h.row.cell 9, h.row.cell 10, h.row.cell 11, h⟩
theorem Gq.six {w0 : World} {g : Nat} {d s : Nat → Nat} {tg : Bool} {pc : Nat} {de : Bool} {vi ty : Nat} {da : ByteArray} {w : World} (h : Gq w0 g d s tg pc de vi ty da w) : w.cell? ⟨g, 12, none⟩ = some (.bool tg) ∧ w.cell? ⟨g, 13, none⟩ = some (.int .u8 (pc : Nat)) ∧ w.cell? ⟨g, 14, none⟩ = some (.bool de) ∧ w.cell? ⟨g, 15, none⟩ = some (.int .u16 (vi : Nat)) ∧ w.cell? ⟨g, 16, none⟩ = some (.int .u16 (ty : Nat)) ∧ w.cell? ⟨g, 17, none⟩ = some (.string da) :=
  ⟨h.row.cell 12, h.row.cell 13, h.row.cell 14, h.row.cell 15, h.row.cell 16, h.row.cell 17⟩
theorem Gq.tail {w0 : World} {g : Nat} {d s : Nat → Nat} {tg : Bool} {pc : Nat} {de : Bool} {vi ty : Nat} {da : ByteArray} {w : World} (h : Gq w0 g d s tg pc de vi ty da w) : w.cell? ⟨g, 16, none⟩ = some (.int .u16 (ty : Nat)) ∧ w.cell? ⟨g, 17, none⟩ = some (.string da) ∧ Gq w0 g d s tg pc de vi ty da w :=
  ⟨h.row.cell 16, h.row.cell 17, h⟩

set_option maxRecDepth 100000 in
set_option maxHeartbeats 4000000 in
theorem rencode_no (d s : Nat → Nat) (tg : Bool) (pc : Nat) (de : Bool) (vi ty : Nat) (da : ByteArray) (w : World) (hno : okF tg pc de vi ty = false) :
    Calls Try.prog 26 #[.agg (frA d s tg pc de vi ty da)] w fun e w' => e = .returned (.tuple #[.string (encS d s tg pc de vi ty da), .int .i64 (encE tg pc de vi ty da)]) ∧ Below w.heap.size w w' := by
  obtain ⟨arr, harr⟩ : ∃ arr, arr = frA d s tg pc de vi ty da := ⟨_, rfl⟩
  have hb := (Below.refl w.heap.size w).alloc (Nat.le_refl _) (Obj.cells arr 56)
  have E1 := Lib.hid (show encE tg pc de vi ty da = 16 by unfold encE; rw [if_neg (by rw [hno]; simp)])
  have E2 := Lib.hid (show encS d s tg pc de vi ty da = ⟨#[]⟩ by unfold encS; rw [if_neg (by rw [E1.out]; omega)])
  have a12 : arr[12]? = some (.bool tg) := by rw [harr]; rfl
  have a13 : arr[13]? = some (.int .u8 (pc : Nat)) := by rw [harr]; rfl
  have a14 : arr[14]? = some (.bool de) := by rw [harr]; rfl
  have a15 : arr[15]? = some (.int .u16 (vi : Nat)) := by rw [harr]; rfl
  have a16 : arr[16]? = some (.int .u16 (ty : Nat)) := by rw [harr]; rfl
  rw [← harr]
  clear harr
  unfold okF at hno
  cases tg with
  | true =>
    have hc : (7 : Int) < (pc : Int) ∨ ((pc : Int) ≤ 7 ∧ (4094 : Int) < (vi : Int)) := by simp at hno; omega
    clear hno
    rcases hc with h | ⟨h, h'⟩
    all_goals
      go_enter Try.func26, Try.ntmps26
      go_wp2_with fail
      go_ret2
      exact ⟨ret_str E2.out.symm E1.out.symm, hb⟩
  | false =>
    by_cases h1 : pc = 0
    · have f1 : ((pc : Int) != 0) = false := by simp; omega
      cases de with
      | true =>
        clear hno h1
        go_enter Try.func26, Try.ntmps26
        go_wp2_with fail
        go_ret2
        exact ⟨ret_str E2.out.symm E1.out.symm, hb⟩
      | false =>
        by_cases h2 : vi = 0
        · have f2 : ((vi : Int) != 0) = false := by simp; omega
          have f3 : ((ty : Int) == 33024) = true := by simp [h1, h2] at hno; simp; omega
          clear hno h1 h2
          go_enter Try.func26, Try.ntmps26
          go_wp2_with fail
          go_ret2
          exact ⟨ret_str E2.out.symm E1.out.symm, hb⟩
        · have f2 : ((vi : Int) != 0) = true := by simp; omega
          clear hno h1 h2
          go_enter Try.func26, Try.ntmps26
          go_wp2_with fail
          go_ret2
          exact ⟨ret_str E2.out.symm E1.out.symm, hb⟩
    · have f1 : ((pc : Int) != 0) = true := by simp; omega
      clear hno h1
      go_enter Try.func26, Try.ntmps26
      go_wp2_with fail
      go_ret2
      exact ⟨ret_str E2.out.symm E1.out.symm, hb⟩
end Go.Proofs.Ytegmhjdddcbanaa
