/- frame.Encode: a frame's bytes, or why it has none. -/
import Derived.Test.YtpjfpcebjneblaaFrm2
import Derived.Deep.RegionHeld3
import Derived.Deep.DeepCutAuto
namespace Go.Proofs.Ytpjfpcebjneblaa
open Go.RowKit

/-- A frame in memory; and nothing that was there has changed. -/
structure Fq (w0 : World) (g : Nat) (d s : Nat → Nat) (tg : Bool) (pc : Nat) (de : Bool) (vi ty : Nat) (da : ByteArray) (w : World) : Prop where
  row : Blk w g (frA d s tg pc de vi ty da) 46
  below : Below g w0 w

theorem Fq.next {w0 : World} {g : Nat} {d s : Nat → Nat} {tg : Bool} {pc : Nat} {de : Bool} {vi ty : Nat} {da : ByteArray} {w : World} {w' : World} (h : Fq w0 g d s tg pc de vi ty da w) (hb : Below w.heap.size w w') : Fq w0 g d s tg pc de vi ty da w' :=
  ⟨h.row.below hb h.row.lt, h.below.trans (hb.mono (Nat.le_of_lt h.row.lt))⟩
theorem Fq.drew {w0 : World} {g : Nat} {d s : Nat → Nat} {tg : Bool} {pc : Nat} {de : Bool} {vi ty : Nat} {da : ByteArray} {w : World} (h : Fq w0 g d s tg pc de vi ty da w) : Fq w0 g d s tg pc de vi ty da w.drew := ⟨h.row.drew, h.below.drew⟩
theorem Fq.macs {w0 : World} {g : Nat} {d s : Nat → Nat} {tg : Bool} {pc : Nat} {de : Bool} {vi ty : Nat} {da : ByteArray} {w : World} (h : Fq w0 g d s tg pc de vi ty da w) : w.cell? ⟨g, 0, none⟩ = some (.int .u8 (d 0 : Nat)) ∧ w.cell? ⟨g, 1, none⟩ = some (.int .u8 (d 1 : Nat)) ∧ w.cell? ⟨g, 2, none⟩ = some (.int .u8 (d 2 : Nat)) ∧ w.cell? ⟨g, 3, none⟩ = some (.int .u8 (d 3 : Nat)) ∧ w.cell? ⟨g, 4, none⟩ = some (.int .u8 (d 4 : Nat)) ∧ w.cell? ⟨g, 5, none⟩ = some (.int .u8 (d 5 : Nat)) ∧ w.cell? ⟨g, 6, none⟩ = some (.int .u8 (s 0 : Nat)) ∧ w.cell? ⟨g, 7, none⟩ = some (.int .u8 (s 1 : Nat)) ∧ w.cell? ⟨g, 8, none⟩ = some (.int .u8 (s 2 : Nat)) ∧ w.cell? ⟨g, 9, none⟩ = some (.int .u8 (s 3 : Nat)) ∧ w.cell? ⟨g, 10, none⟩ = some (.int .u8 (s 4 : Nat)) ∧ w.cell? ⟨g, 11, none⟩ = some (.int .u8 (s 5 : Nat)) ∧ Fq w0 g d s tg pc de vi ty da w :=
  ⟨h.row.cell 0, h.row.cell 1, h.row.cell 2, h.row.cell 3, h.row.cell 4, h.row.cell 5, h.row.cell 6, h.row.cell 7, h.row.cell 8, h.row.cell 9, h.row.cell 10, h.row.cell 11, h⟩
theorem Fq.whole {w0 : World} {g : Nat} {d s : Nat → Nat} {tg : Bool} {pc : Nat} {de : Bool} {vi ty : Nat} {da : ByteArray} {w : World} (h : Fq w0 g d s tg pc de vi ty da w) : w.cell? ⟨g, 0, none⟩ = some (.int .u8 (d 0 : Nat)) ∧ w.cell? ⟨g, 1, none⟩ = some (.int .u8 (d 1 : Nat)) ∧ w.cell? ⟨g, 2, none⟩ = some (.int .u8 (d 2 : Nat)) ∧ w.cell? ⟨g, 3, none⟩ = some (.int .u8 (d 3 : Nat)) ∧ w.cell? ⟨g, 4, none⟩ = some (.int .u8 (d 4 : Nat)) ∧ w.cell? ⟨g, 5, none⟩ = some (.int .u8 (d 5 : Nat)) ∧ w.cell? ⟨g, 6, none⟩ = some (.int .u8 (s 0 : Nat)) ∧ w.cell? ⟨g, 7, none⟩ = some (.int .u8 (s 1 : Nat)) ∧ w.cell? ⟨g, 8, none⟩ = some (.int .u8 (s 2 : Nat)) ∧ w.cell? ⟨g, 9, none⟩ = some (.int .u8 (s 3 : Nat)) ∧ w.cell? ⟨g, 10, none⟩ = some (.int .u8 (s 4 : Nat)) ∧ w.cell? ⟨g, 11, none⟩ = some (.int .u8 (s 5 : Nat)) ∧ w.cell? ⟨g, 12, none⟩ = some (.bool tg) ∧ w.cell? ⟨g, 13, none⟩ = some (.int .u8 (pc : Nat)) ∧ w.cell? ⟨g, 14, none⟩ = some (.bool de) ∧ w.cell? ⟨g, 15, none⟩ = some (.int .u16 (vi : Nat)) ∧ w.cell? ⟨g, 16, none⟩ = some (.int .u16 (ty : Nat)) ∧ w.cell? ⟨g, 17, none⟩ = some (.string da) ∧ Fq w0 g d s tg pc de vi ty da w :=
  ⟨h.row.cell 0, h.row.cell 1, h.row.cell 2, h.row.cell 3, h.row.cell 4, h.row.cell 5, h.row.cell 6, h.row.cell 7, h.row.cell 8, h.row.cell 9, h.row.cell 10, h.row.cell 11, h.row.cell 12, h.row.cell 13, h.row.cell 14, h.row.cell 15, h.row.cell 16, h.row.cell 17, h⟩
theorem Fq.tail {w0 : World} {g : Nat} {d s : Nat → Nat} {tg : Bool} {pc : Nat} {de : Bool} {vi ty : Nat} {da : ByteArray} {w : World} (h : Fq w0 g d s tg pc de vi ty da w) : w.cell? ⟨g, 16, none⟩ = some (.int .u16 (ty : Nat)) ∧ w.cell? ⟨g, 17, none⟩ = some (.string da) ∧ Fq w0 g d s tg pc de vi ty da w :=
  ⟨h.row.cell 16, h.row.cell 17, h⟩

/-- Six bytes as a text. -/
def six6 (d : Nat → Nat) : List UInt8 := [UInt8.ofNat (d 0), UInt8.ofNat (d 1), UInt8.ofNat (d 2), UInt8.ofNat (d 3), UInt8.ofNat (d 4), UInt8.ofNat (d 5)]

theorem bytes_six (d : Nat → Nat) (hd : Six d) : Nums.bytesN (numF d 6) 6 = six6 d := by
  have h := byteF_numF hd
  simp only [mac, Value.agg.injEq, Array.mk.injEq, List.cons.injEq, Value.int.injEq, Int.natCast_inj, true_and, and_true] at h
  obtain ⟨h0, h1, h2, h3, h4, h5⟩ := h
  unfold six6
  rw [← h0, ← h1, ← h2, ← h3, ← h4, ← h5]
  rfl

/-- A frame's bytes. -/
def encL (d s : Nat → Nat) (tg : Bool) (pc : Nat) (de : Bool) (vi ty : Nat) (da : ByteArray) : List UInt8 :=
  (six6 d ++ six6 s) ++ (if tg then ([129, 0] ++ Nums.bytesN (tagN pc de vi) 2) else []) ++ Nums.bytesN ty 2 ++ da.data.toList

/-- The error's number. -/
def encE (tg : Bool) (pc : Nat) (de : Bool) (vi ty : Nat) (da : ByteArray) : Int := if okF tg pc de vi ty = true then (if 1518 < lenF tg da then 3 else 0) else 16
/-- The bytes, if there is no error. -/
def encS (d s : Nat → Nat) (tg : Bool) (pc : Nat) (de : Bool) (vi ty : Nat) (da : ByteArray) : ByteArray := if encE tg pc de vi ty da = 0 then ⟨(encL d s tg pc de vi ty da).toArray⟩ else ⟨#[]⟩

theorem ret_str {a a' : ByteArray} {b b' : Int} (h : a = a') (g : b = b') : Ending.returned (.tuple #[.string a, .int .i64 b]) = .returned (.tuple #[.string a', .int .i64 b']) := by rw [h, g]

theorem mayBe_of {d s : Nat → Nat} {tg : Bool} {pc : Nat} {de : Bool} {vi ty : Nat} {da : ByteArray} {arr : Array Value} (h : arr = frA d s tg pc de vi ty da) (w : World) :
    Calls Try.prog 43 #[.agg arr] w fun e w' => e = .returned (.bool (okF tg pc de vi ty)) ∧ Below w.heap.size w w' := by subst h; exact mayBe_any d s tg pc de vi ty da w
theorem size_of {d s : Nat → Nat} {tg : Bool} {pc : Nat} {de : Bool} {vi ty : Nat} {da : ByteArray} {arr : Array Value} (h : arr = frA d s tg pc de vi ty da) (w : World) (hd : da.size ≤ 1600) :
    Calls Try.prog 44 #[.agg arr] w fun e w' => e = .returned (.int .i64 (lenF tg da : Nat)) ∧ Below w.heap.size w w' := by subst h; exact size_any d s tg pc de vi ty da w hd

set_option maxRecDepth 100000 in
set_option maxHeartbeats 4000000 in
theorem encode_no (d s : Nat → Nat) (tg : Bool) (pc : Nat) (de : Bool) (vi ty : Nat) (da : ByteArray) (w : World) (hz : da.size ≤ 1600) (hno : okF tg pc de vi ty = false ∨ 1518 < lenF tg da) :
    Calls Try.prog 24 #[.agg (frA d s tg pc de vi ty da)] w fun e w' => e = .returned (.tuple #[.string (encS d s tg pc de vi ty da), .int .i64 (encE tg pc de vi ty da)]) ∧ Below w.heap.size w w' := by
  obtain ⟨arr, harr⟩ : ∃ arr, arr = frA d s tg pc de vi ty da := ⟨_, rfl⟩
  have hi := Lib.hid size52
  have HA := Lib.hid harr
  have R := Lib.hid (Blk.new w arr 46)
  have hb := (Below.refl w.heap.size w).alloc (Nat.le_refl _) (Obj.cells arr 46)
  have hsz : (Try.prog.info? 46).map (·.size) = some arr.size := by rw [harr]; exact size52
  have HSZ := Lib.hid hsz
  rw [← harr]
  clear harr hsz
  cases hok : okF tg pc de vi ty with
  | false =>
    have E1 := Lib.hid (show encE tg pc de vi ty da = 16 by unfold encE; rw [if_neg (by rw [hok]; simp)])
    have E2 := Lib.hid (show encS d s tg pc de vi ty da = ⟨#[]⟩ by unfold encS; rw [if_neg (by rw [E1.out]; omega)])
    have HOK := Lib.hid hok
    clear hok hno
    go_enter Try.func24, Try.ntmps24
    go_wp2_with (first
      | (refine wpList_load_row rfl 46 _ rfl w.heap.size rfl 46 _ (0, 0) _ R.out Try.underlying46 rfl HSZ.out ?_)
      | (go_at_call 43; refine (mayBe_of HA.out _).mono ?_; rintro e w1 ⟨rfl, hb1⟩; rw [HOK.out]))
    go_ret2
    exact ⟨ret_str E2.out.symm E1.out.symm, hb.trans (hb1.mono hb.size)⟩
  | true =>
    have hlen : 1518 < lenF tg da := by rcases hno with h | h; (rw [hok] at h; cases h); exact h
    have E1 := Lib.hid (show encE tg pc de vi ty da = 3 by unfold encE; rw [if_pos hok, if_pos hlen])
    have E2 := Lib.hid (show encS d s tg pc de vi ty da = ⟨#[]⟩ by unfold encS; rw [if_neg (by rw [E1.out]; omega)])
    have HOK := Lib.hid hok
    obtain ⟨n, hn⟩ : ∃ n, n = lenF tg da := ⟨_, rfl⟩
    have HN := Lib.hid hn
    have hnl : (1518 : Int) < (n : Int) := by omega
    clear hok hno hlen hn
    go_enter Try.func24, Try.ntmps24
    go_wp2_with (first
      | (refine wpList_load_row rfl 46 _ rfl w.heap.size rfl 46 _ (0, 0) _ R.out Try.underlying46 rfl HSZ.out ?_)
      | (go_at_call 43; refine (mayBe_of HA.out _).mono ?_; rintro e w1 ⟨rfl, hb1⟩; rw [HOK.out]
         have R := Lib.hid (R.out.below hb1 (by simp)))
      | (go_at_call 44; refine (size_of HA.out _ hz).mono ?_; rintro e w2 ⟨rfl, hb2⟩; rw [← HN.out]))
    go_ret2
    exact ⟨ret_str E2.out.symm E1.out.symm, (hb.trans (hb1.mono hb.size)).trans (hb2.mono (Nat.le_trans hb.size hb1.size))⟩
end Go.Proofs.Ytpjfpcebjneblaa
