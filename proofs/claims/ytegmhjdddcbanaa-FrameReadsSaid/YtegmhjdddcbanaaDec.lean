/- frame.Decode: what holds while it reads; what it answers. -/
import Derived.Test.YtegmhjdddcbanaaRTag
import Derived.Test.YtegmhjdddcbanaaRead
namespace Go.Proofs.Ytegmhjdddcbanaa
open Go.RowKit

/-- The result's block, the frame so far, the reader. -/
structure Ds (w0 : World) (B : Nat) (arr : Array Value) (rest : ByteArray) (sh : Bool) (w : World) : Prop where
  r0 : Blk w B nil18 52
  r1 : Blk w (B + 1) arr 52
  rd : Rd w (B + 2) rest sh
  below : Below B w0 w
  size : B + 3 ≤ w.heap.size

theorem Ds.grown {w0 w w' : World} {B : Nat} {arr : Array Value} {rest rest' : ByteArray} {sh sh' : Bool} (h : Ds w0 B arr rest sh w) (hr : Rd w' (B + 2) rest' sh') (hg : w.grownBy w' (some (B + 2))) : Ds w0 B arr rest' sh' w' :=
  ⟨h.r0.grown hg (by simp), h.r1.grown hg (by simp), hr, h.below.grown hg (by have := h.size; omega) (by simp), Nat.le_trans h.size hg.size⟩
theorem Ds.one {w0 w w' : World} {B : Nat} {arr arr' : Array Value} {rest : ByteArray} {sh : Bool} (h : Ds w0 B arr rest sh w) (hr : Blk w' (B + 1) arr' 52) (hg : w.grownBy w' (some (B + 1))) : Ds w0 B arr' rest sh w' :=
  ⟨h.r0.grown hg (by simp), hr, Has.grown h.rd hg (by simp), h.below.grown hg (by have := h.size; omega) (by simp), Nat.le_trans h.size hg.size⟩
theorem Ds.put {w0 w : World} {B : Nat} {arr : Array Value} {rest : ByteArray} {sh : Bool} (h : Ds w0 B arr rest sh w) (o : Nat) (v : Value) : Ds w0 B (arr.setIfInBounds o v) rest sh (w.setCell ⟨B + 1, o, none⟩ v) :=
  ⟨h.r0.other (by simp) _, h.r1.set o _, Has.other h.rd (by simp) _, h.below.setCell (by simp) _, by simp [h.size]⟩
theorem Ds.put0 {w0 w : World} {B : Nat} {arr : Array Value} {rest : ByteArray} {sh : Bool} (h : Ds w0 B arr rest sh w) (m : Nat → Nat) : Ds w0 B ((((((arr.setIfInBounds 0 (.int .u8 (m 0 : Nat))).setIfInBounds 1 (.int .u8 (m 1 : Nat))).setIfInBounds 2 (.int .u8 (m 2 : Nat))).setIfInBounds 3 (.int .u8 (m 3 : Nat))).setIfInBounds 4 (.int .u8 (m 4 : Nat))).setIfInBounds 5 (.int .u8 (m 5 : Nat))) rest sh ((((((w.setCell ⟨B + 1, 0, none⟩ (.int .u8 (m 0 : Nat))).setCell ⟨B + 1, 1, none⟩ (.int .u8 (m 1 : Nat))).setCell ⟨B + 1, 2, none⟩ (.int .u8 (m 2 : Nat))).setCell ⟨B + 1, 3, none⟩ (.int .u8 (m 3 : Nat))).setCell ⟨B + 1, 4, none⟩ (.int .u8 (m 4 : Nat))).setCell ⟨B + 1, 5, none⟩ (.int .u8 (m 5 : Nat))) :=
  ⟨((((((h.r0.other (by simp) _).other (by simp) _).other (by simp) _).other (by simp) _).other (by simp) _).other (by simp) _), ((((((h.r1.set 0 _).set 1 _).set 2 _).set 3 _).set 4 _).set 5 _), (Has.other (Has.other (Has.other (Has.other (Has.other (Has.other h.rd (by simp) _) (by simp) _) (by simp) _) (by simp) _) (by simp) _) (by simp) _), ((((((h.below.setCell (by simp) _).setCell (by simp) _).setCell (by simp) _).setCell (by simp) _).setCell (by simp) _).setCell (by simp) _), by simp [h.size]⟩
theorem Ds.put6 {w0 w : World} {B : Nat} {arr : Array Value} {rest : ByteArray} {sh : Bool} (h : Ds w0 B arr rest sh w) (m : Nat → Nat) : Ds w0 B ((((((arr.setIfInBounds 6 (.int .u8 (m 0 : Nat))).setIfInBounds 7 (.int .u8 (m 1 : Nat))).setIfInBounds 8 (.int .u8 (m 2 : Nat))).setIfInBounds 9 (.int .u8 (m 3 : Nat))).setIfInBounds 10 (.int .u8 (m 4 : Nat))).setIfInBounds 11 (.int .u8 (m 5 : Nat))) rest sh ((((((w.setCell ⟨B + 1, 6, none⟩ (.int .u8 (m 0 : Nat))).setCell ⟨B + 1, 7, none⟩ (.int .u8 (m 1 : Nat))).setCell ⟨B + 1, 8, none⟩ (.int .u8 (m 2 : Nat))).setCell ⟨B + 1, 9, none⟩ (.int .u8 (m 3 : Nat))).setCell ⟨B + 1, 10, none⟩ (.int .u8 (m 4 : Nat))).setCell ⟨B + 1, 11, none⟩ (.int .u8 (m 5 : Nat))) :=
  ⟨((((((h.r0.other (by simp) _).other (by simp) _).other (by simp) _).other (by simp) _).other (by simp) _).other (by simp) _), ((((((h.r1.set 6 _).set 7 _).set 8 _).set 9 _).set 10 _).set 11 _), (Has.other (Has.other (Has.other (Has.other (Has.other (Has.other h.rd (by simp) _) (by simp) _) (by simp) _) (by simp) _) (by simp) _) (by simp) _), ((((((h.below.setCell (by simp) _).setCell (by simp) _).setCell (by simp) _).setCell (by simp) _).setCell (by simp) _).setCell (by simp) _), by simp [h.size]⟩

theorem Ds.there {w0 w : World} {B : Nat} {arr : Array Value} {rest : ByteArray} {sh : Bool} (h : Ds w0 B arr rest sh w) (hz : arr.size = 18) (o : Nat) (ho : o < 18) : (∃ v, w.cell? ⟨B + 1, o, none⟩ = some v) ∧ w.frozen? ⟨B + 1, o, none⟩ = false :=
  ⟨⟨arr[o]'(by omega), by rw [h.r1.cell o, Array.getElem?_eq_getElem (by omega)]⟩, h.r1.free o⟩

/-- Two bytes as a number. -/
def wordAt (s : ByteArray) (i : Nat) : Nat := 256 * byteAt' s i + byteAt' s (i + 1)

theorem wordAt_lt (s : ByteArray) (i : Nat) : wordAt s i < 65536 := by
  have h1 := byteAt_lt s i
  have h2 := byteAt_lt s (i + 1)
  unfold wordAt
  omega

/-- Is it tagged? -/
def tgB (s : ByteArray) : Bool := decide (wordAt s 12 = 33024)
/-- The error's number. -/
def decE (s : ByteArray) : Int := if 1518 < s.size then 3 else if s.size < 14 then 2 else if tgB s = true then (if s.size < 18 then 2 else if 4094 < wordAt s 14 % 4096 then 16 else 0) else 0
/-- The source's bytes. -/
def srcF (s : ByteArray) (i : Nat) : Nat := byteAt' s (6 + i)
/-- The frame, if there is no error. -/
def decA (s : ByteArray) : Array Value := if decE s = 0 then (if tgB s = true then frA (byteAt' s) (srcF s) true (wordAt s 14 / 8192) (decide (wordAt s 14 / 4096 % 2 = 1)) (wordAt s 14 % 4096) (wordAt s 16) (s.extract 18 s.size) else frA (byteAt' s) (srcF s) false 0 false 0 (wordAt s 12) (s.extract 14 s.size)) else nil18

theorem ret_frm {a a' : Array Value} {b b' : Int} (h : a = a') (g : b = b') : Ending.returned (.tuple #[.agg a, .int .i64 b]) = .returned (.tuple #[.agg a', .int .i64 b']) := by rw [h, g]

theorem nil18_one : nil18.all (·.oneCell') = true := by simp [Value.oneCell']

set_option maxHeartbeats 1000000 in
theorem decode_long (s : ByteArray) (w : World) (h : 1518 < s.size) : Calls Try.prog 27 #[.string s] w fun e w' => e = .returned (.tuple #[.agg (decA s), .int .i64 (decE s)]) ∧ Below w.heap.size w w' := by
  have E1 := Lib.hid (show decE s = 3 by unfold decE; rw [if_pos h])
  have E2 := Lib.hid (show decA s = nil18 by unfold decA; rw [if_neg (by rw [E1.out]; omega)])
  have hI : (1518 : Int) < (s.size : Int) := by omega
  have R := Lib.hid (Blk.new w nil18 52)
  have hi := Lib.hid size52
  have ho := Lib.hid nil18_one
  have hb := below_setRow ((Below.refl w.heap.size w).alloc (Nat.le_refl _) (Obj.cells nil18 52)) (Nat.le_refl _) nil18
  clear h
  go_enter Try.func27, Try.ntmps27
  go_wp2_with (first
    | (refine wpList_store_row rfl 52 _ _ rfl w.heap.size nil18 rfl rfl 52 nil18 R.out hi.out rfl ho.out ?_))
  exact bodyPost_ret (v := .tuple #[.agg nil18, .int .i64 3]) (results_row_tmp Try.results27 _ _ w.heap.size 52 nil18 _ _ rfl rfl (R.out.row _) Try.underlying52 rfl hi.out) rfl ⟨ret_frm E2.out.symm E1.out.symm, hb⟩

end Go.Proofs.Ytegmhjdddcbanaa
