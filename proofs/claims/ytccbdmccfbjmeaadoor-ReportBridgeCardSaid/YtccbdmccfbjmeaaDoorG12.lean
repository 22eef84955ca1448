import Derived.Test.YtccbdmccfbjmeaaDoorG11
import Derived.ChangeKeysEq
import Derived.Test.YtccbdmccfbjmeaaDoorG1
import Derived.Laws.CopyOwn
import Derived.Lib.BufferWrite
import Derived.Deep.QuietTactic
import Derived.BigQuiet
import Derived.Deep.RegionWith
import Derived.Deep.DeepCutAuto
import Derived.Maps.AppendAt
set_option linter.unusedSimpArgs false
set_option linter.unusedVariables false
namespace Go.Proofs.YtccbdmccfbjmeaaDoor
section
/- The document's own answers for layer 1: powers, bits, numbers of bytes, bytes of numbers. -/
open Go.RowKit

theorem pow_walk (k : Nat) (h : k < 63) : Value.int .u64 (IntKind.u64.wrap (2 ^ k * 2)) = Value.int .u64 ((2 ^ (k + 1) : Nat) : Int) := by
  have hp : (2 ^ (k + 1) : Nat) ≤ 2 ^ 63 := Nat.pow_le_pow_right (by omega) (by omega)
  have e : (2 : Int) ^ k * 2 = ((2 ^ (k + 1) : Nat) : Int) := by rw [Nat.pow_succ]; simp
  rw [IntKind.wrap_u64, e]
  generalize 2 ^ (k + 1) = z at *
  congr 1
  omega

theorem pow_ne (k : Nat) : ¬ (2 : Int) ^ k = 0 := by
  have := Nums.two_pos k
  have e : (2 : Int) ^ k = ((2 ^ k : Nat) : Int) := by simp
  rw [e]
  omega

theorem div_one (y : Nat) (m : Nat) : y % 2 ^ (m + 1) = 2 * (y / 2 % 2 ^ m) + y % 2 := by
  rw [Nat.pow_succ, Nat.mul_comm, Nat.mod_mul]
  omega

theorem fieldStep (x a k n : Nat) (hx : x < 18446744073709551616) (hk : k < n) :
    Value.int .u64 (IntKind.u64.wrap (IntKind.u64.wrap (2 * ((x : Int) / 2 ^ (a + (k + 1)) % 2 ^ (n - (k + 1)))) + (IntKind.u64.wrap ((x : Int) / 2 ^ (a + k))).tmod 2)) = Value.int .u64 ((x / 2 ^ (a + k) % 2 ^ (n - k) : Nat) : Int) := by
  have e : n - k = (n - (k + 1)) + 1 := by omega
  have f : x / 2 ^ (a + (k + 1)) = x / 2 ^ (a + k) / 2 := by rw [Nat.div_div_eq_div_mul, ← Nat.pow_succ]; rfl
  have g := div_one (x / 2 ^ (a + k)) (n - (k + 1))
  have l : x / 2 ^ (a + k) % 2 ^ (n - k) < 18446744073709551616 := Nat.lt_of_le_of_lt (Nat.mod_le _ _) (Nat.lt_of_le_of_lt (Nat.div_le_self _ _) hx)
  have l2 : x / 2 ^ (a + k) < 18446744073709551616 := Nat.lt_of_le_of_lt (Nat.div_le_self _ _) hx
  have c1 : (x : Int) / 2 ^ (a + (k + 1)) % 2 ^ (n - (k + 1)) = ((x / 2 ^ (a + (k + 1)) % 2 ^ (n - (k + 1)) : Nat) : Int) := by simp
  have c2 : (x : Int) / 2 ^ (a + k) = ((x / 2 ^ (a + k) : Nat) : Int) := by simp
  rw [c1, c2, f, IntKind.wrap_u64, IntKind.wrap_u64, IntKind.wrap_u64]
  rw [e] at l ⊢
  generalize x / 2 ^ (a + k) = y at *
  generalize 2 ^ (n - (k + 1)) = z at *
  have : ((y : Int) % 18446744073709551616).tmod 2 = ((y % 2 : Nat) : Int) := by
    rw [Int.tmod_eq_emod_of_nonneg (by omega)]; omega
  rw [this]
  congr 1
  omega

theorem numL_take_succ (l : List UInt8) (k : Nat) (h : k < l.length) : Nums.numL (l.take (k + 1)) = 256 * Nums.numL (l.take k) + l[k].toNat := by
  rw [List.take_succ_eq_append_getElem h, Nums.numL_snoc]

theorem number_walk (s : ByteArray) (k : Nat) (h : k < s.size) (h8 : s.size ≤ 8) :
    Value.int .u64 (IntKind.u64.wrap (IntKind.u64.wrap (256 * ((Nums.numL (s.data.toList.take k) : Nat) : Int)) + IntKind.u64.wrap ((s[k].toNat : Nat) : Int))) = Value.int .u64 ((Nums.numL (s.data.toList.take (k + 1)) : Nat) : Int) := by
  have hk : k < s.data.toList.length := by simpa using h
  have e := numL_take_succ s.data.toList k hk
  have l := Nums.numL_lt (s.data.toList.take (k + 1))
  have p : 256 ^ (s.data.toList.take (k + 1)).length ≤ 256 ^ 8 := Nat.pow_le_pow_right (by omega) (by simp; omega)
  have c : s.data.toList[k].toNat = s[k].toNat := rfl
  rw [c] at e
  have := s[k].toNat_lt
  rw [IntKind.wrap_u64, IntKind.wrap_u64, IntKind.wrap_u64]
  have p' : Nums.numL (s.data.toList.take (k + 1)) < 18446744073709551616 := Nat.lt_of_lt_of_le l p
  generalize Nums.numL (s.data.toList.take (k + 1)) = a at *
  generalize Nums.numL (s.data.toList.take k) = b at *
  congr 1
  omega

theorem one_text (w : World) (v : Int) (b : UInt8) (h : v = (b.toNat : Int)) :
    (convert 58 9 (.slice (some ⟨w.heap.size, 0, none⟩) 1 1)).run Tryd.prog (w.alloc (.cells #[.int .u8 v] 5)) = .ok (.string ⟨#[b]⟩) (w.alloc (.cells #[.int .u8 v] 5)) := by
  have h1 : Has (w.alloc (.cells #[.int .u8 v] 5)) w.heap.size ([b].map bv) := by
    intro j hj
    have : j = 0 := by simpa using hj
    subst this
    exact ⟨by simp [bv, h], by simp⟩
  exact h1.text 58 9 5 Tryd.underlying58 Tryd.underlying5 Tryd.underlying9 1 rfl

theorem rbytes_val (x k : Nat) : ((x : Int) / 256 ^ k).tmod 256 % 256 = ((UInt8.ofNat (x / 256 ^ k % 256)).toNat : Int) := by
  have e : (UInt8.ofNat (x / 256 ^ k % 256)).toNat = x / 256 ^ k % 256 := by simp
  have c : (x : Int) / 256 ^ k = ((x / 256 ^ k : Nat) : Int) := by simp
  rw [e, c]
  generalize x / 256 ^ k = y
  rw [Int.tmod_eq_emod_of_nonneg (by omega)]
  omega

theorem rbytes_next (x k : Nat) (hx : x < 18446744073709551616) : Value.int .u64 (IntKind.u64.wrap (((x : Int) / 256 ^ k).tdiv 256)) = Value.int .u64 ((x / 256 ^ (k + 1) : Nat) : Int) := by
  have c : (x : Int) / 256 ^ k = ((x / 256 ^ k : Nat) : Int) := by simp
  have f : x / 256 ^ (k + 1) = x / 256 ^ k / 256 := by rw [Nat.div_div_eq_div_mul, ← Nat.pow_succ]
  have l : x / 256 ^ k < 18446744073709551616 := Nat.lt_of_le_of_lt (Nat.div_le_self _ _) hx
  rw [c, f, IntKind.wrap_u64]
  generalize x / 256 ^ k = y at *
  rw [Int.tdiv_eq_ediv_of_nonneg (by omega)]
  congr 1
  omega

theorem rbytes_cat (x k : Nat) : Value.string ((⟨#[UInt8.ofNat (x / 256 ^ k % 256)]⟩ : ByteArray) ++ ⟨(Nums.bytesN x k).toArray⟩) = Value.string ⟨(Nums.bytesN x (k + 1)).toArray⟩ := by
  congr 1

set_option maxHeartbeats 400000 in
theorem bytes_no (x : Nat) (n : Int) (w : World) (h : n < 1 ∨ 8 < n) :
    Calls Tryd.prog 32 #[.int .u64 x, .int .i64 n] w fun e w' => e = .returned (.string ⟨#[]⟩) ∧ w = w' := by
  have hg : goodSizeB n = false := by unfold goodSizeB; simp; omega
  clear h
  go_enter Tryd.func32, Tryd.ntmps32
  go_wp2_with (go_at_call 39; refine (goodSize_any _ _).mono ?_; rintro e w' ⟨rfl, rfl⟩; rw [hg])
  go_ret
  exact ⟨rfl, rfl⟩
end
section
/- What a reader of package wire does: its two cells are what is left, and whether it is short. -/
open Go.RowKit

/-- Block g is a reader. -/
def Rd (w : World) (g : Nat) (rest : ByteArray) (short : Bool) : Prop := Has w g [.string rest, .bool short]

/-- How a reader ends. -/
def endN (rest : ByteArray) (short : Bool) : Int := if short then 2 else if rest.size = 0 then 0 else 3

theorem byteAt {w : World} {g : Nat} {t : ByteArray} (h : Has w g (t.data.toList.map bv)) (k : Nat) (hk : k < t.size) :
    ∃ c : UInt8, w.cell? ⟨g, k, none⟩ = some (.int .u8 (c.toNat : Int)) ∧ Nums.numL (t.data.toList.take (k + 1)) = 256 * Nums.numL (t.data.toList.take k) + c.toNat := by
  have hl : k < t.data.toList.length := by rw [Array.length_toList]; exact hk
  refine ⟨t.data.toList[k], ?_, numL_take_succ _ _ hl⟩
  have := h.cellAt k (by simpa using hl)
  rw [List.getElem_map] at this
  exact this

theorem num_walk (a b : Nat) (c : UInt8) (e : a = 256 * b + c.toNat) (l : a < 18446744073709551616) :
    Value.int .u64 (bits .or .u64 (IntKind.u64.wrap ((b : Int) * 256)) (IntKind.u64.wrap (c.toNat : Int))) = Value.int .u64 (a : Int) := by
  have hc := c.toNat_lt
  have e1 : IntKind.u64.wrap ((b : Int) * 256) = ((b * 256 : Nat) : Int) := by rw [IntKind.wrap_u64]; omega
  have e2 : IntKind.u64.wrap (c.toNat : Int) = (c.toNat : Int) := by rw [IntKind.wrap_u64]; omega
  rw [e1, e2, u64_or_nat _ _ (by omega) (by omega), nat_join 8 _ _ (by omega) (by omega), e, Nat.mul_comm]

theorem numL_take_lt (l : List UInt8) (k : Nat) (h : k ≤ 8) : Nums.numL (l.take k) < 18446744073709551616 := by
  have h1 := Nums.numL_lt (l.take k)
  have p : 256 ^ (l.take k).length ≤ 256 ^ 8 := Nat.pow_le_pow_right (by omega) (by simp; omega)
  exact Nat.lt_of_lt_of_le h1 p
end
section
/- Addresses as six numbers: plain arithmetic, and what the functions of package addr that only compute do. -/
open Go.RowKit

/-- Six bytes, by value. -/
abbrev mac (m : Nat → Nat) : Value := .agg #[.int .u8 (m 0 : Nat), .int .u8 (m 1 : Nat), .int .u8 (m 2 : Nat), .int .u8 (m 3 : Nat), .int .u8 (m 4 : Nat), .int .u8 (m 5 : Nat)]

/-- Is each of them a byte? -/
def Six (m : Nat → Nat) : Prop := m 0 < 256 ∧ m 1 < 256 ∧ m 2 < 256 ∧ m 3 < 256 ∧ m 4 < 256 ∧ m 5 < 256

theorem Six.at {m : Nat → Nat} (h : Six m) (k : Nat) (hk : k < 6) : m k < 256 := by
  obtain ⟨h0, h1, h2, h3, h4, h5⟩ := h
  match k, hk with
  | 0, _ => exact h0
  | 1, _ => exact h1
  | 2, _ => exact h2
  | 3, _ => exact h3
  | 4, _ => exact h4
  | 5, _ => exact h5

/-- The number of some bytes. -/
def numF (m : Nat → Nat) : Nat → Nat
  | 0 => 0
  | k + 1 => 256 * numF m k + m k

/-- The bytes of a number. -/
def byteF (n : Nat) (i : Nat) : Nat := n / 256 ^ (5 - i) % 256

theorem byteF_six (n : Nat) : Six (byteF n) := by
  unfold Six byteF
  refine ⟨?_, ?_, ?_, ?_, ?_, ?_⟩ <;> exact Nat.mod_lt _ (by omega)

theorem byteF_lit (n : Nat) : byteF n 0 = n / 1099511627776 % 256 ∧ byteF n 1 = n / 4294967296 % 256 ∧ byteF n 2 = n / 16777216 % 256 ∧ byteF n 3 = n / 65536 % 256 ∧ byteF n 4 = n / 256 % 256 ∧ byteF n 5 = n % 256 := by
  refine ⟨rfl, rfl, rfl, rfl, ?_, ?_⟩
  · simp [byteF]
  · simp [byteF]

theorem numF_lit (m : Nat → Nat) : numF m 6 = 256 * (256 * (256 * (256 * (256 * m 0 + m 1) + m 2) + m 3) + m 4) + m 5 := by
  simp [numF]

theorem numF_lt {m : Nat → Nat} (h : Six m) : numF m 6 < 281474976710656 := by
  rw [numF_lit]
  obtain ⟨h0, h1, h2, h3, h4, h5⟩ := h
  omega

theorem numF_byteF (n : Nat) : numF (byteF n) 6 = n % 281474976710656 := by
  rw [numF_lit]
  obtain ⟨h0, h1, h2, h3, h4, h5⟩ := byteF_lit n
  rw [h0, h1, h2, h3, h4, h5]
  omega

theorem byteF_numF {m : Nat → Nat} (h : Six m) : mac (byteF (numF m 6)) = mac m := by
  obtain ⟨e0, e1, e2, e3, e4, e5⟩ := byteF_lit (numF m 6)
  rw [numF_lit] at *
  obtain ⟨h0, h1, h2, h3, h4, h5⟩ := h
  unfold mac
  rw [show byteF (256 * (256 * (256 * (256 * (256 * m 0 + m 1) + m 2) + m 3) + m 4) + m 5) 0 = m 0 by omega,
    show byteF (256 * (256 * (256 * (256 * (256 * m 0 + m 1) + m 2) + m 3) + m 4) + m 5) 1 = m 1 by omega,
    show byteF (256 * (256 * (256 * (256 * (256 * m 0 + m 1) + m 2) + m 3) + m 4) + m 5) 2 = m 2 by omega,
    show byteF (256 * (256 * (256 * (256 * (256 * m 0 + m 1) + m 2) + m 3) + m 4) + m 5) 3 = m 3 by omega,
    show byteF (256 * (256 * (256 * (256 * (256 * m 0 + m 1) + m 2) + m 3) + m 4) + m 5) 4 = m 4 by omega,
    show byteF (256 * (256 * (256 * (256 * (256 * m 0 + m 1) + m 2) + m 3) + m 4) + m 5) 5 = m 5 by omega]

theorem numF_step (m : Nat → Nat) (k : Nat) : numF m (k + 1) = 256 * numF m k + m k := rfl

theorem numF_le {m : Nat → Nat} (h : Six m) (k : Nat) (hk : k ≤ 6) : numF m k < 281474976710656 := by
  obtain ⟨h0, h1, h2, h3, h4, h5⟩ := h
  match k, hk with
  | 0, _ => simp [numF]
  | 1, _ => simp [numF]; omega
  | 2, _ => simp [numF]; omega
  | 3, _ => simp [numF]; omega
  | 4, _ => simp [numF]; omega
  | 5, _ => simp [numF]; omega
  | 6, _ => simp [numF]; omega

/-- An element of six bytes. -/
theorem mac_at (m : Nat → Nat) (k : Nat) (hk : k < 6) : (#[Value.int .u8 (m 0 : Nat), .int .u8 (m 1 : Nat), .int .u8 (m 2 : Nat), .int .u8 (m 3 : Nat), .int .u8 (m 4 : Nat), .int .u8 (m 5 : Nat)] : Array Value)[k]? = some (.int .u8 (m k : Nat)) := by
  match k, hk with
  | 0, _ => rfl
  | 1, _ => rfl
  | 2, _ => rfl
  | 3, _ => rfl
  | 4, _ => rfl
  | 5, _ => rfl

/-- Its cells, as a list. -/
abbrev macL (m : Nat → Nat) : List Value := [.int .u8 (m 0 : Nat), .int .u8 (m 1 : Nat), .int .u8 (m 2 : Nat), .int .u8 (m 3 : Nat), .int .u8 (m 4 : Nat), .int .u8 (m 5 : Nat)]

theorem macL_at (m : Nat → Nat) (k : Nat) (hk : k < (macL m).length) : (macL m)[k] = .int .u8 (m k : Nat) :=
  (Array.getElem?_eq_some_iff.1 (mac_at m k hk)).2

theorem Tryd.info5' : (Tryd.prog.info? 5).map (fun i => (i.zero, i.size, i.bytes)) = some (some (.int .u8 0), 1, 1) := by kernel_rfl
theorem Tryd.cells5 : Tryd.prog.cellsOf 5 = 1 := by kernel_rfl

theorem run_index_mac (t : TypeId) (ht : Tryd.prog.underlying t = some (.array 6 5)) (m : Nat → Nat) (k : Nat) (W : World) (hk : k < 6) :
    (Instr.index t (mac m) (.int .i64 (k : Int))).run Tryd.prog W = .ok (.int .u8 (m k : Nat)) W := by
  have h1 : (0 : Int) ≤ (k : Int) ∧ (k : Int) < 6 := by omega
  obtain ⟨i, hi, _⟩ := info_parts Tryd.info5'
  have hs := run_sizeOf (P := Tryd.prog) (w := W) hi
  rw [Tryd.cells5] at hs
  have hl := macL_at m k hk
  simp only [macL] at hl
  simp [Instr.index, run_underlying ht, asIntOf, h1, go_sem, part, hs, hk, hl]

theorem Has.mac (w : World) (m : Nat → Nat) (t : TypeId) : Has (w.alloc (.cells #[.int .u8 (m 0 : Nat), .int .u8 (m 1 : Nat), .int .u8 (m 2 : Nat), .int .u8 (m 3 : Nat), .int .u8 (m 4 : Nat), .int .u8 (m 5 : Nat)] t)) w.heap.size (macL m) := by
  intro j hj
  match j, hj with
  | 0, _ => exact ⟨by simp, by simp⟩
  | 1, _ => exact ⟨by simp, by simp⟩
  | 2, _ => exact ⟨by simp, by simp⟩
  | 3, _ => exact ⟨by simp, by simp⟩
  | 4, _ => exact ⟨by simp, by simp⟩
  | 5, _ => exact ⟨by simp, by simp⟩

theorem num_walk2 (m : Nat → Nat) (k : Nat) (h : m k < 256) (l : numF m k < 281474976710656) :
    Value.int .u64 (bits .or .u64 (IntKind.u64.wrap ((numF m k : Int) * 256)) (m k : Int)) = Value.int .u64 (numF m (k + 1) : Nat) := by
  have e1 : IntKind.u64.wrap ((numF m k : Int) * 256) = ((numF m k * 256 : Nat) : Int) := by rw [IntKind.wrap_u64]; omega
  rw [e1, u64_or_nat _ _ (by omega) (by omega), nat_join 8 _ _ (by omega) (by omega), numF_step, Nat.mul_comm]

theorem num_walk3 (m : Nat → Nat) (k : Nat) (h : m k < 256) (l : numF m k < 281474976710656) :
    Value.int .u64 (IntKind.u64.wrap (IntKind.u64.wrap (256 * (numF m k : Int)) + (m k : Int))) = Value.int .u64 (numF m (k + 1) : Nat) := by
  rw [numF_step, IntKind.wrap_u64, IntKind.wrap_u64]
  congr 1
  omega
end
section
/- Blocks of cells that are known whole. -/
open Go.RowKit

theorem Blk.free6 {w : World} {g : Nat} {cs : Array Value} {t : TypeId} (h : Blk w g cs t) :
    w.frozen? ⟨g, 0, none⟩ = false ∧ w.frozen? ⟨g, 1, none⟩ = false ∧ w.frozen? ⟨g, 2, none⟩ = false ∧ w.frozen? ⟨g, 3, none⟩ = false ∧ w.frozen? ⟨g, 4, none⟩ = false ∧ w.frozen? ⟨g, 5, none⟩ = false :=
  ⟨h.free 0, h.free 1, h.free 2, h.free 3, h.free 4, h.free 5⟩

/-- Six cells known whole, one by one. -/
theorem Blk.six {w : World} {g : Nat} {t : TypeId} {c0 c1 c2 c3 c4 c5 : Value} (h : Blk w g #[c0, c1, c2, c3, c4, c5] t) :
    w.cell? ⟨g, 0, none⟩ = some c0 ∧ w.cell? ⟨g, 1, none⟩ = some c1 ∧ w.cell? ⟨g, 2, none⟩ = some c2 ∧ w.cell? ⟨g, 3, none⟩ = some c3 ∧ w.cell? ⟨g, 4, none⟩ = some c4 ∧ w.cell? ⟨g, 5, none⟩ = some c5 :=
  ⟨h.cell 0, h.cell 1, h.cell 2, h.cell 3, h.cell 4, h.cell 5⟩

/-- Six bytes as an array of cells. -/
abbrev macA (m : Nat → Nat) : Array Value := #[.int .u8 (m 0 : Nat), .int .u8 (m 1 : Nat), .int .u8 (m 2 : Nat), .int .u8 (m 3 : Nat), .int .u8 (m 4 : Nat), .int .u8 (m 5 : Nat)]

theorem bytes6 (x : Nat) : (Lib.byteCells (Nums.bytesN x 6)) = macL (byteF x) := by
  simp [Nums.bytesN, Lib.byteCells, macL, byteF]

theorem copy_six (w : World) (g x : Nat) (ty : TypeId) (cur : Array Value) (hc : cur.size = 6) (h : Blk w g cur 63) :
    (Builtin.copy_ #[58, 9] ty #[.slice (some ⟨g, 0, none⟩) 6 6, .string ⟨(Nums.bytesN x 6).toArray⟩]).run Tryd.prog w = .ok (goInt 6) (w.setRow g (macA (byteF x))) := by
  have hs : (⟨(Nums.bytesN x 6).toArray⟩ : ByteArray).size = 6 := by show (Nums.bytesN x 6).toArray.size = 6; simp [Nums.bytesN_length]
  obtain ⟨i, hi, _, h1, _⟩ := info_parts Tryd.info5'
  have := Lib.run_copy_row_string (P := Tryd.prog) w 58 9 ty 5 g 0 6 6 ⟨(Nums.bytesN x 6).toArray⟩ cur 63 Tryd.underlying58 (by rw [hi]; simp [h1]) h (by omega) (by omega)
  rw [this, hs]
  have hd : cur.toList.drop (0 + 6) = [] := List.drop_eq_nil_of_le (by rw [Array.length_toList]; omega)
  rw [hd]
  simp only [bytes6, List.take_zero, List.nil_append, List.append_nil]
  rfl
end
section
/- What the functions of package addr do that make no text, and the document's own answers for them. -/
open Go.RowKit

/-- Six noughts. -/
abbrev nil6 : Array Value := #[.int .u8 0, .int .u8 0, .int .u8 0, .int .u8 0, .int .u8 0, .int .u8 0]

theorem size25 : (Tryd.prog.info? 63).map (·.size) = some 6 := by kernel_rfl
theorem size22 : (Tryd.prog.info? 37).map (·.size) = some 6 := by kernel_rfl
theorem macA_one (m : Nat → Nat) : (macA m).all (·.oneCell') = true := by simp [Value.oneCell']

set_option maxHeartbeats 1000000 in
theorem fromInt_any (x : Nat) (w : World) : Calls Tryd.prog 25 #[.int .u64 x] w fun e w' => e = .returned (mac (byteF x)) ∧ Below w.heap.size w w' := by
  obtain ⟨W, hW⟩ : ∃ W, W = (w.alloc (Obj.cells nil6 63)).alloc (Obj.cells nil6 63) := ⟨_, rfl⟩
  have hB : Below w.heap.size w W := by rw [hW]; exact ((Below.refl _ _).alloc (Nat.le_refl _) _).alloc (by simp) _
  have hS : W.heap.size = w.heap.size + 2 := by rw [hW]; simp
  have r0 : Blk W w.heap.size nil6 63 := by rw [hW]; exact (Blk.new _ _ _).alloc _
  have r1 : Blk W (w.heap.size + 1) nil6 63 := by
    rw [hW]
    have := Blk.new (w.alloc (Obj.cells nil6 63)) nil6 63
    rwa [show (w.alloc (Obj.cells nil6 63)).heap.size = w.heap.size + 1 by simp] at this
  have HW := Lib.hid hW
  have HS := Lib.hid hS
  clear hW hS
  go_enter Tryd.func25, Tryd.ntmps25
  go_wp2_with (fail)
  simp only [nil6] at HW
  rw [← HW.out]
  generalize hBe : w.heap.size = B at *
  have HB := Lib.hid hBe
  clear hBe HW
  go_region_with (first
    | (go_at_call 32; refine (bytes_yes x 6 _ (by omega) (by omega)).mono ?_; rintro e w1 ⟨rfl, hb1⟩
       have r2 : Blk w1 B nil6 63 := Blk.below (Blk.drew r0) hb1 (by have := HS.out; simp; omega)
       have r3 : Blk w1 (B + 1) nil6 63 := Blk.below (Blk.drew r1) hb1 (by have := HS.out; simp; omega)
       have hcopy := copy_six w1 (B + 1) x 3 nil6 rfl r3))
  have r4 := r2.rowOther (k := B + 1) (by omega) (macA (byteF x))
  have r5 := r3.row (macA (byteF x))
  have hB2 : Below B w (w1.setRow (B + 1) (macA (byteF x))) := by
    refine below_setRow (hB.drew.trans (hb1.mono ?_)) (by omega) _
    have := HS.out
    simp
    omega
  clear hcopy r0 r1 r2 r3 hb1 hB
  generalize w1.setRow (B + 1) (macA (byteF x)) = w2 at *
  have hi := Lib.hid size25
  have ho := Lib.hid (macA_one (byteF x))
  have R4 := Lib.hid r4
  have R5 := Lib.hid r5
  clear r4 r5
  go_wp2_with (first
    | (refine wpList_load_row rfl 63 _ rfl (B + 1) rfl 63 _ (0, 0) _ R5.out Tryd.underlying63 rfl hi.out ?_)
    | (refine wpList_store_row rfl 63 _ _ rfl B (macA (byteF x)) rfl rfl 63 nil6 R4.out hi.out rfl ho.out ?_))
  exact bodyPost_ret (v := mac (byteF x)) (results_cell_row Tryd.results25 _ _ B 63 (macA (byteF x)) (0, 0) _ rfl (R4.out.row _) Tryd.underlying63 rfl hi.out) rfl ⟨rfl, by rw [HB.out]; exact below_setRow hB2 (Nat.le_refl _) _⟩

theorem macA_set (f : Nat → Nat) (k v : Nat) (hk : k < 6) : (macA f).setIfInBounds k (.int .u8 (v : Nat)) = macA (fun i => if i = k then v else f i) := by
  match k, hk with
  | 0, _ => rfl
  | 1, _ => rfl
  | 2, _ => rfl
  | 3, _ => rfl
  | 4, _ => rfl
  | 5, _ => rfl

theorem macA_congr {f g : Nat → Nat} (h : ∀ i, i < 6 → f i = g i) : macA f = macA g := by
  unfold macA
  rw [h 0 (by omega), h 1 (by omega), h 2 (by omega), h 3 (by omega), h 4 (by omega), h 5 (by omega)]

theorem mac_congr {f g : Nat → Nat} (h : ∀ i, i < 6 → f i = g i) : mac f = mac g := by
  unfold mac
  rw [h 0 (by omega), h 1 (by omega), h 2 (by omega), h 3 (by omega), h 4 (by omega), h 5 (by omega)]

/-- The last j bytes of a number. -/
def lastF (x j i : Nat) : Nat := if 6 ≤ i + j then byteF x i else 0

theorem lastF_zero (x : Nat) : nil6 = macA (lastF x 0) := rfl

theorem lastF_step (x j : Nat) (hj : j < 6) : (macA (lastF x j)).setIfInBounds (5 - j) (.int .u8 ((x / 256 ^ j % 256 : Nat) : Int)) = macA (lastF x (j + 1)) := by
  rw [macA_set _ _ _ (by omega)]
  apply macA_congr
  intro i hi
  unfold lastF byteF
  by_cases c : i = 5 - j
  · subst c
    rw [if_pos rfl, if_pos (by omega), show 5 - (5 - j) = j by omega]
  · rw [if_neg c]
    by_cases d : 6 ≤ i + j
    · rw [if_pos d, if_pos (by omega)]
    · rw [if_neg d, if_neg (by omega)]

theorem rfrom_val (x j : Nat) : Value.int .u8 (((x : Int) / 256 ^ j).tmod 256 % 256) = .int .u8 ((x / 256 ^ j % 256 : Nat) : Int) := by
  have c : (x : Int) / 256 ^ j = ((x / 256 ^ j : Nat) : Int) := by simp
  rw [c]
  generalize x / 256 ^ j = y
  rw [Int.tmod_eq_emod_of_nonneg (by omega)]
  congr 1
  omega

set_option maxHeartbeats 1000000 in
theorem rfromInt_any (x : Nat) (w : World) (hx : x < 18446744073709551616) : Calls Tryd.prog 5 #[.int .u64 x] w fun e w' => e = .returned (mac (byteF x)) ∧ Below w.heap.size w w' := by
  obtain ⟨W, hW⟩ : ∃ W, W = (w.alloc (Obj.cells nil6 37)).alloc (Obj.cells nil6 37) := ⟨_, rfl⟩
  have hB : Below w.heap.size w W := by rw [hW]; exact ((Below.refl _ _).alloc (Nat.le_refl _) _).alloc (by simp) _
  have r0 : Blk W w.heap.size nil6 37 := by rw [hW]; exact (Blk.new _ _ _).alloc _
  have r1 : Blk W (w.heap.size + 1) nil6 37 := by
    rw [hW]
    have := Blk.new (w.alloc (Obj.cells nil6 37)) nil6 37
    rwa [show (w.alloc (Obj.cells nil6 37)).heap.size = w.heap.size + 1 by simp] at this
  have HW := Lib.hid hW
  clear hW
  go_enter Tryd.func5, Tryd.ntmps5
  go_wp2_with (fail)
  simp only [nil6] at HW
  rw [← HW.out]
  generalize hBe : w.heap.size = B at *
  have HB := Lib.hid hBe
  clear hBe HW
  go_loopw [0, 4] (fun n i wr => ∃ j : Nat, j ≤ 6 ∧ i = .int .i64 (5 - (j : Int)) ∧ n = .int .u64 ((x / 256 ^ j : Nat) : Int) ∧ Below B w wr ∧ Blk wr B nil6 37 ∧ Blk wr (B + 1) (macA (lastF x j)) 37) (fun _ i _ => (intOf i + 1).toNat)
  case atStart => exact ⟨0, by omega, by simp, by simp, hB, r0, r1⟩
  case round =>
    obtain ⟨j, hj, rfl, rfl, hb, h0, h1⟩ := hrel
    by_cases hlt : j < 6
    · have hs := Lib.hid (h1.set (5 - j) (.int .u8 ((x / 256 ^ j % 256 : Nat) : Int)))
      have hc : wr.cell? ⟨B + 1, 5 - j, none⟩ = some (.int .u8 (lastF x j (5 - j) : Nat)) := by rw [h1.cell]; exact mac_at _ _ (by omega)
      have hf := h1.free (5 - j)
      have hd := Lib.hid (h0.other (a := ⟨B + 1, 5 - j, none⟩) (by simp) (.int .u8 ((x / 256 ^ j % 256 : Nat) : Int)))
      have h1' := Lib.hid (rbytes_next x j hx)
      have h2' := Lib.hid (rfrom_val x j)
      have hstep := Lib.hid (lastF_step x j hlt)
      have e1 : ((5 : Int) - (j : Int)) = ((5 - j : Nat) : Int) := by omega
      have e2 : (j : Int) ≤ 5 := by omega
      have e3 := Lib.hid e1
      rw [e1]
      clear r0 r1 h0 h1 e1 hB
      go_wp2
      go_roundw
      case rel =>
        refine ⟨j + 1, by omega, ?_, h1'.out, hb.setCell (by simp) _, ?_, ?_⟩
        · rw [← e3.out]; congr 1; omega
        · rw [h2'.out]; exact hd.out
        · rw [h2'.out, ← hstep.out]; exact hs.out
      case measure => simp [intOf] <;> omega
    · have hj' : j = 6 := by omega
      subst hj'
      have hi := Lib.hid size22
      have ho := Lib.hid (macA_one (lastF x 6))
      have R4 := Lib.hid h0
      have R5 := Lib.hid h1
      have hm := Lib.hid (show mac (lastF x 6) = mac (byteF x) from mac_congr fun i _ => by unfold lastF; rw [if_pos (by omega)])
      clear r0 r1 h0 h1
      go_wp2_with (first
        | (refine wpList_load_row rfl 37 _ rfl (B + 1) rfl 37 _ (0, 0) _ R5.out Tryd.underlying37 rfl hi.out ?_)
        | (refine wpList_store_row rfl 37 _ _ rfl B (macA (lastF x 6)) rfl rfl 37 nil6 R4.out hi.out rfl ho.out ?_))
      exact bodyPost_ret (v := mac (lastF x 6)) (results_cell_row Tryd.results5 _ _ B 37 (macA (lastF x 6)) (0, 0) _ rfl (R4.out.row _) Tryd.underlying37 rfl hi.out) rfl ⟨by rw [hm.out], by rw [HB.out]; exact below_setRow hb (Nat.le_refl _) _⟩
end
section
/- What the functions of package addr tell of an address, and the document's own answers. -/
open Go.RowKit

theorem ret_bool {a b : Bool} (h : a = b) : Ending.returned (.bool a) = .returned (.bool b) := by rw [h]

/-- Is it an address that no bridge forwards? -/
def resB (m : Nat → Nat) : Bool := decide (m 0 = 1) && decide (m 1 = 128) && decide (m 2 = 194) && decide (m 3 = 0) && decide (m 4 = 0) && decide (m 5 < 16)

theorem first5 (w : World) (g : Nat) (m : Nat → Nat) (t : TypeId) (hm : Six m) (h : Blk w g (macA m) t) :
    (convert 58 9 (.slice (some ⟨g, 0, none⟩) 5 6)).run Tryd.prog w = .ok (.string ⟨#[UInt8.ofNat (m 0), UInt8.ofNat (m 1), UInt8.ofNat (m 2), UInt8.ofNat (m 3), UInt8.ofNat (m 4)]⟩) w := by
  obtain ⟨h0, h1, h2, h3, h4, h5⟩ := hm
  have hh : Has w g ([UInt8.ofNat (m 0), UInt8.ofNat (m 1), UInt8.ofNat (m 2), UInt8.ofNat (m 3), UInt8.ofNat (m 4)].map bv) := by
    intro j hj
    refine ⟨?_, h.free j⟩
    rw [h.cell j]
    match j, hj with
    | 0, _ => simp [bv]; omega
    | 1, _ => simp [bv]; omega
    | 2, _ => simp [bv]; omega
    | 3, _ => simp [bv]; omega
    | 4, _ => simp [bv]; omega
  exact hh.text (P := Tryd.prog) (cap := 6) 58 9 5 Tryd.underlying58 Tryd.underlying5 Tryd.underlying9 5 rfl

theorem ofNat_eq (n c : Nat) (hn : n < 256) (hc : c < 256) : UInt8.ofNat n = UInt8.ofNat c ↔ n = c := by
  constructor
  · intro h
    have := congrArg UInt8.toNat h
    simp at this
    omega
  · intro h
    rw [h]

theorem front_iff (m : Nat → Nat) (hm : Six m) : (UInt8.ofNat (m 0) = 1 ∧ UInt8.ofNat (m 1) = 128 ∧ UInt8.ofNat (m 2) = 194 ∧ UInt8.ofNat (m 3) = 0 ∧ UInt8.ofNat (m 4) = 0) ↔ (m 0 = 1 ∧ m 1 = 128 ∧ m 2 = 194 ∧ m 3 = 0 ∧ m 4 = 0) := by
  obtain ⟨h0, h1, h2, h3, h4, h5⟩ := hm
  have e0 := ofNat_eq (m 0) 1 h0 (by omega)
  have e1 := ofNat_eq (m 1) 128 h1 (by omega)
  have e2 := ofNat_eq (m 2) 194 h2 (by omega)
  have e3 := ofNat_eq (m 3) 0 h3 (by omega)
  have e4 := ofNat_eq (m 4) 0 h4 (by omega)
  exact and_congr e0 (and_congr e1 (and_congr e2 (and_congr e3 e4)))

/-- The digit of a number below 16. -/
def digN (n : Nat) : Nat := (if n < 10 then 48 + n else 87 + n) % 256

theorem digN_small (n : Nat) (h : n < 10) : ((digN n : Nat) : Int) = 48 + (n : Int) := by unfold digN; rw [if_pos h]; omega
theorem digN_great (n : Nat) (h : ¬ n < 10) : ((digN n : Nat) : Int) = (87 + (n : Int)) % 256 := by unfold digN; rw [if_neg h]; omega

set_option maxHeartbeats 400000 in
theorem digit_any (n : Nat) (w : World) (hn : n < 256) : Calls Tryd.prog 11 #[.int .u8 n] w fun e w' => e = .returned (.int .u8 (digN n : Nat)) ∧ w = w' := by
  by_cases c : n < 10
  · have H := Lib.hid (digN_small n c)
    go_enter Tryd.func11, Tryd.ntmps11
    go_wp2
    go_ret
    exact ⟨ret_int H.out.symm, rfl⟩
  · have H := Lib.hid (digN_great n c)
    go_enter Tryd.func11, Tryd.ntmps11
    go_wp2
    go_ret
    exact ⟨ret_int H.out.symm, rfl⟩

/-- What a digit tells, a small or a great one; none: 16. -/
def hexN (c : Nat) : Nat := if 48 ≤ c ∧ c ≤ 57 then c - 48 else if 97 ≤ c ∧ c ≤ 102 then c - 87 else if 65 ≤ c ∧ c ≤ 70 then c - 55 else 16

def hexOk (c : Nat) : Bool := decide (hexN c < 16)
def hexV (c : Nat) : Nat := if hexN c < 16 then hexN c else 0

theorem ret_two {k : IntKind} {a a' : Int} {b b' : Bool} (h : a = a') (g : b = b') : Ending.returned (.tuple #[.int k a, .bool b]) = .returned (.tuple #[.int k a', .bool b']) := by rw [h, g]

theorem hexV_lt (c : Nat) : hexV c < 16 := by unfold hexV; split <;> omega

/-- Two digits' byte. -/
def pairV (a b : Nat) : Nat := 16 * hexV a + hexV b

theorem pair_walk (a b : Nat) : bits .or .u8 (bits .or .u8 0 (hexV a : Int) * 16 % 256) (hexV b : Int) = (pairV a b : Nat) := by
  have h1 := hexV_lt a
  have h2 := hexV_lt b
  have e0 : bits .or .u8 0 (hexV a : Int) = ((hexV a : Nat) : Int) := by
    rw [show (0 : Int) = ((0 : Nat) : Int) from rfl, u8_or_nat _ _ (by omega) (by omega), Nat.zero_or]
  have e1 : ((hexV a : Int) * 16 % 256) = ((hexV a * 16 : Nat) : Int) := by omega
  rw [e0, e1, u8_or_nat _ _ (by omega) (by omega), nat_join 4 _ _ (by omega) (by omega)]
  unfold pairV
  rw [Nat.mul_comm]
end
section
/- Bridges' IDs; and the first line of each statement of layer 3. -/
open Go.RowKit

/-- An ID as a number. -/
def idN (p x : Nat) : Nat := p * 281474976710656 + x

theorem idN_lt (p x : Nat) (hp : p < 65536) (hx : x < 281474976710656) : idN p x < 18446744073709551616 := by unfold idN; omega

theorem pow48 (i : Nat) (h : 48 ≤ i) : 281474976710656 ≤ 2 ^ i := Nat.pow_le_pow_right (n := 2) (by omega) h
theorem pow64 (i : Nat) (h : 64 ≤ i) : 18446744073709551616 ≤ 2 ^ i := Nat.pow_le_pow_right (n := 2) (by omega) h

theorem with_id (x p : Nat) (hp : p < 65536) (hx : x < 281474976710656) : Nums.withN x 48 16 p = idN p x := by
  have hg : Nums.good 48 16 := by unfold Nums.good; omega
  apply Nat.eq_of_testBit_eq
  intro i
  by_cases hi : i < 64
  · rw [Nums.testBit_withN x 48 16 p i hg hi]
    have e : idN p x = p <<< 48 ||| x := by
      unfold idN
      rw [Nat.shiftLeft_eq, Nat.mul_comm, show (281474976710656 : Nat) = 2 ^ 48 by decide, Nat.two_pow_add_eq_or_of_lt (by simpa using hx), Nat.mul_comm]
    rw [e, Nat.testBit_or, Nat.testBit_shiftLeft]
    show (if 48 ≤ i ∧ i < 48 + 16 then p.testBit (i - 48) else x.testBit i) = _
    by_cases c : 48 ≤ i
    · rw [if_pos ⟨c, by omega⟩]
      have : x.testBit i = false := Nat.testBit_lt_two_pow (Nat.lt_of_lt_of_le hx (pow48 i c))
      simp [c, this]
    · rw [if_neg (by omega)]
      simp [c]
  · have h1 : Nums.withN x 48 16 p < 2 ^ i := Nat.lt_of_lt_of_le (Nums.withN_lt x 48 16 p (by omega)) (pow64 i (by omega))
    have h2 : idN p x < 2 ^ i := Nat.lt_of_lt_of_le (idN_lt p x hp hx) (pow64 i (by omega))
    rw [Nat.testBit_lt_two_pow h1, Nat.testBit_lt_two_pow h2]

theorem field_id (d : Nat) (hd : d < 18446744073709551616) : Nums.fieldN d 48 16 = d / 281474976710656 := by
  unfold Nums.fieldN
  rw [if_pos (by unfold Nums.good; omega)]
  show d / 2 ^ 48 % 2 ^ 16 = _
  omega

set_option maxHeartbeats 400000 in
theorem priority_any (d : Nat) (w : World) (hd : d < 18446744073709551616) : Calls Tryd.prog 14 #[.int .u64 d] w fun e w' => e = .returned (.int .u16 (d / 281474976710656 : Nat)) ∧ w = w' := by
  have hf := Lib.hid (field_id d hd)
  have hql : d / 281474976710656 < 65536 := by omega
  go_enter Tryd.func14, Tryd.ntmps14
  go_wp2_with (first
    | (go_at_call 24; refine (field_any d 48 16 _ hd).mono ?_; rintro e w2 ⟨rfl, rfl⟩; rw [hf.out]))
  go_ret
  exact ⟨ret_int (by simp), rfl⟩

set_option maxHeartbeats 400000 in
theorem idmac_any (d : Nat) (w : World) : Calls Tryd.prog 15 #[.int .u64 d] w fun e w' => e = .returned (mac (byteF d)) ∧ Below w.heap.size w w' := by
  have r0 := Blk.new w nil6 63
  have hb := (Below.refl w.heap.size w).alloc (Nat.le_refl _) (Obj.cells nil6 63)
  have hi := Lib.hid size25
  have ho := Lib.hid (macA_one (byteF d))
  have R := Lib.hid r0
  clear r0
  go_enter Tryd.func15, Tryd.ntmps15
  go_wp2_with (first
    | (go_at_call 25; refine (fromInt_any d _).mono ?_; rintro e w1 ⟨rfl, hb1⟩
       have r1 := Lib.hid (R.out.below hb1 (by simp)))
    | (refine wpList_store_row rfl 63 _ _ rfl w.heap.size (macA (byteF d)) rfl rfl 63 nil6 r1.out hi.out rfl ho.out ?_))
  exact bodyPost_ret (v := mac (byteF d)) (results_cell_row Tryd.results15 _ _ w.heap.size 63 (macA (byteF d)) (0, 0) _ rfl (r1.out.row _) Tryd.underlying63 rfl hi.out) rfl ⟨rfl, below_setRow (hb.trans (hb1.mono hb.size)) (Nat.le_refl _) _⟩
end
section
/- How addr shows an address, and the document's own answer. -/
open Go.RowKit

/-- The first places of an address, shown. -/
def showT (m : Nat → Nat) : Nat → List UInt8
  | 0 => []
  | k + 1 => showT m k ++ ((if k = 0 then [] else [58]) ++ [UInt8.ofNat (digN (m k / 16)), UInt8.ofNat (digN (m k % 16))])

theorem showT_len (m : Nat → Nat) (k : Nat) : (showT m k).length = if k = 0 then 0 else 3 * k - 1 := by
  induction k with
  | zero => rfl
  | succ k ih =>
    simp only [showT, List.length_append, ih]
    by_cases c : k = 0
    · subst c; simp
    · rw [if_neg c, if_neg c, if_neg (by omega)]; simp; omega

def digits : ByteArray := ⟨#[48, 49, 50, 51, 52, 53, 54, 55, 56, 57, 97, 98, 99, 100, 101, 102]⟩

theorem digits_all : ∀ n : Fin 16, (digits[n.val]'n.isLt).toNat = digN n.val := by decide
theorem digits_at (n : Nat) (hn : n < digits.size) : digits[n].toNat = digN n := digits_all ⟨n, hn⟩

theorem digN_lt (n : Nat) : digN n < 256 := Nat.mod_lt _ (by omega)

theorem run_digits (n : Nat) (hn : n < 16) (W : World) : (Instr.index 9 (.string ⟨#[48, 49, 50, 51, 52, 53, 54, 55, 56, 57, 97, 98, 99, 100, 101, 102]⟩) (.int .u64 (n : Int))).run Tryd.prog W = .ok (.int .u8 (digN n : Nat)) W := by
  have := run_index_string (P := Tryd.prog) W 9 digits .u64 (n : Int) Tryd.underlying9
  have hs : n < digits.size := hn
  rw [dif_pos ⟨by omega, by show (n : Int) < 16; omega⟩] at this
  rw [show (⟨#[48, 49, 50, 51, 52, 53, 54, 55, 56, 57, 97, 98, 99, 100, 101, 102]⟩ : ByteArray) = digits from rfl, this]
  have e := digits_at n hs
  simp only [Int.toNat_natCast]
  rw [e]

theorem field_hi (x : Nat) (h : x < 256) : Nums.fieldN x 4 4 = x / 16 := by
  unfold Nums.fieldN
  rw [if_pos (by unfold Nums.good; omega)]
  show x / 2 ^ 4 % 2 ^ 4 = _
  omega
theorem field_lo (x : Nat) : Nums.fieldN x 0 4 = x % 16 := by
  unfold Nums.fieldN
  rw [if_pos (by unfold Nums.good; omega)]
  show x / 2 ^ 0 % 2 ^ 4 = _
  omega

theorem one_cell (v : Value) (h : v.oneCell' = true) : ∀ u ∈ [v], u.oneCell' = true := by
  intro u hu
  rw [List.mem_singleton.1 hu]
  exact h

theorem showT_first (m : Nat → Nat) : (showT m 0).map bv ++ [Value.int .u8 (digN (m 0 / 16) : Nat)] ++ [Value.int .u8 (digN (m 0 % 16) : Nat)] = (showT m 1).map bv := by
  have h1 := digN_lt (m 0 / 16)
  have h2 := digN_lt (m 0 % 16)
  simp [showT, bv]
  omega

theorem showT_next (m : Nat → Nat) (k : Nat) (hk : 0 < k) : (showT m k).map bv ++ [Value.int .u8 58] ++ [Value.int .u8 (digN (m k / 16) : Nat)] ++ [Value.int .u8 (digN (m k % 16) : Nat)] = (showT m (k + 1)).map bv := by
  have h1 := digN_lt (m k / 16)
  have h2 := digN_lt (m k % 16)
  have h3 : k ≠ 0 := by omega
  simp [showT, bv, h3]
  omega

set_option maxRecDepth 100000 in
set_option maxHeartbeats 2000000 in
theorem show_any (m : Nat → Nat) (w : World) (hm : Six m) : Calls Tryd.prog 16 #[mac m] w fun e w' => e = .returned (.string ⟨(showT m 6).toArray⟩) ∧ Below w.heap.size w w' := by
  have b0 : Below w.heap.size w w := Below.refl _ _
  have H := Lib.hid hm
  obtain ⟨i0, hi, hz0, hz1, hz2⟩ := info_parts Tryd.info5'
  have hi1 := Lib.hid hz1
  have hi2 := Lib.hid hz2
  have hsz := Lib.hid size25
  clear hz1 hz2 hm
  go_enter Tryd.func16, Tryd.ntmps16
  go_wp2_with (first
    | (at_make; refine wpList_make_own _ rfl _ _ 58 rfl (w.heap.size + 1) 5 i0 (.int .u8 0) 1 Tryd.underlying58 hi hz0 hi1.out .i64 .i64 _ 17 rfl rfl rfl (by rw [hi2.out]; omega) (by unfold maxLen; omega) (by simp) ?_; intro w1 hown hgrow
       have rb := Lib.hid ((Blk.new w (macA m) 63).grown hgrow (by simp)))
    | (refine wpList_load_row rfl 63 _ rfl w.heap.size rfl 63 _ (0, 0) _ rb.out Tryd.underlying63 rfl hsz.out ?_))
  have hb1 := (b0.alloc (Nat.le_refl _) _).grown hgrow (by simp) (by simp)
  have hs1 := hgrow.size
  rw [show (w.alloc (Obj.cells (macA m) 63)).heap.size = w.heap.size + 1 by simp] at hs1 hown
  clear hgrow rb b0
  generalize hBe : w.heap.size = B at *
  have HB := Lib.hid hBe
  clear hBe
  go_loopw [3, 10] (fun b i wr => ∃ (k n : Nat), k ≤ 6 ∧ i = .int .i64 (k : Int) ∧ (showT m k).length = n ∧ b = .slice (some ⟨B + 1, 0, none⟩) n 17 ∧ wr.ownsRow (B + 1) 5 1 (.slice (some ⟨B + 1, 0, none⟩) n 17) n ((showT m k).map bv) ∧ Below B w wr ∧ B + 1 ≤ wr.heap.size) (fun _ i _ => 6 - (intOf i).toNat)
  case atStart => exact ⟨0, 0, by omega, rfl, rfl, rfl, hown, hb1, hs1⟩
  case round =>
    obtain ⟨k, n, hk, rfl, hn, rfl, hown, hb, hs⟩ := hrel
    have HN := Lib.hid hn
    have ho := Lib.hid hown
    clear hn hown hb1 hs1
    by_cases hlt : k < 6
    · have hm := H.out.at k hlt
      obtain ⟨d1, hd1⟩ : ∃ d, d = m k / 16 := ⟨_, rfl⟩
      obtain ⟨d2, hd2⟩ : ∃ d, d = m k % 16 := ⟨_, rfl⟩
      have hf1 := Lib.hid (show Nums.fieldN (m k) 4 4 = d1 by rw [hd1]; exact field_hi (m k) hm)
      have hf2 := Lib.hid (show Nums.fieldN (m k) 0 4 = d2 by rw [hd2]; exact field_lo (m k))
      have l1 : d1 < 16 := by omega
      have l2 : d2 < 16 := by omega
      have D1 := Lib.hid hd1
      have D2 := Lib.hid hd2
      clear hd1 hd2
      have hd1 := fun W => run_digits d1 l1 W
      have hd2 := fun W => run_digits d2 l2 W
      by_cases c : k = 0
      · subst c
        have hn0 : n = 0 := by have := HN.out; rw [← this]; rfl
        subst hn0
        have hidx : ∀ W, (Instr.index 63 (mac m) (.int .i64 0)).run Tryd.prog W = .ok (.int .u8 (m 0 : Nat)) W := fun W => run_index_mac 63 Tryd.underlying63 m 0 W hlt
        go_wp2_with fail
        refine wp_loop_rounds 3 ?_
        rw [rounds_succ]
        go_wp2_with (first
          | (go_at_call 24; refine (field_any (m 0) 4 4 _ (by omega)).mono ?_; rintro e w' ⟨rfl, rfl⟩; rw [hf1.out])
          | (at_builtin; refine wpList_append_fits _ rfl _ _ 58 rfl (B + 1) 5 i0 1 Tryd.underlying58 hi hi1.out (B + 1) 0 17 _ rfl (ho.out.alloc _) ⟨wr.heap.size, 0, none⟩ 1 1 [.int .u8 (digN d1 : Nat)] rfl rfl (cell_one_new _ _ _) (one_cell _ rfl) (by omega) ?_; intro w2 hown2 hgrow2))
        rw [rounds_succ]
        go_wp2_with (first
          | (go_at_call 24; refine (field_any (m 0) 0 4 _ (by omega)).mono ?_; rintro e w' ⟨rfl, rfl⟩; rw [hf2.out])
          | (at_builtin; refine wpList_append_fits _ rfl _ _ 58 rfl (B + 1) 5 i0 1 Tryd.underlying58 hi hi1.out (B + 1) 1 17 _ rfl (hown2.alloc _) ⟨w2.heap.size, 0, none⟩ 1 1 [.int .u8 (digN d2 : Nat)] rfl rfl (cell_one_new _ _ _) (one_cell _ rfl) (by omega) ?_; intro w3 hown3 hgrow3))
        rw [rounds_succ]
        go_wp2_with fail
        have hB2 := (hb.alloc (by omega) _).grown hgrow2 (by simp; omega) (by simp)
        have hB3 := (hB2.alloc (by have := hgrow2.size; simp at this; omega) _).grown hgrow3 (by have := hgrow2.size; simp at this; simp; omega) (by simp)
        have hs3 : B + 1 ≤ w3.heap.size := by have := hgrow2.size; have := hgrow3.size; simp at *; omega
        rw [D1.out, D2.out, showT_first] at hown3
        have ho3 := Lib.hid hown3
        clear hown2 hown3 hgrow2 hgrow3
        go_roundw
        case rel => exact ⟨1, 2, by omega, rfl, by rw [showT_len]; rfl, rfl, ho3.out, hB3, hs3⟩
        case measure => simp [intOf]
      · have hidx := fun W => run_index_mac 63 Tryd.underlying63 m k W hlt
        have hk0 : ¬ (k : Int) ≤ 0 := by omega
        have hn17 : n + 3 ≤ 17 := by
          have h := HN.out
          rw [showT_len, if_neg c] at h
          omega
        have hc' : 0 < k := by omega
        clear c
        go_wp2_with (first
          | (at_builtin; refine wpList_append_fits _ rfl _ _ 58 rfl (B + 1) 5 i0 1 Tryd.underlying58 hi hi1.out (B + 1) n 17 _ rfl (ho.out.alloc _) ⟨wr.heap.size, 0, none⟩ 1 1 [.int .u8 58] rfl rfl (cell_one_new _ _ _) (one_cell _ rfl) (by omega) ?_; intro w2 hown2 hgrow2))
        refine wp_loop_rounds 3 ?_
        rw [rounds_succ]
        go_wp2_with (first
          | (go_at_call 24; refine (field_any (m k) 4 4 _ (by omega)).mono ?_; rintro e w' ⟨rfl, rfl⟩; rw [hf1.out])
          | (at_builtin; refine wpList_append_fits _ rfl _ _ 58 rfl (B + 1) 5 i0 1 Tryd.underlying58 hi hi1.out (B + 1) (n + 1) 17 _ rfl (hown2.alloc _) ⟨w2.heap.size, 0, none⟩ 1 1 [.int .u8 (digN d1 : Nat)] rfl rfl (cell_one_new _ _ _) (one_cell _ rfl) (by omega) ?_; intro w3 hown3 hgrow3))
        rw [rounds_succ]
        go_wp2_with (first
          | (go_at_call 24; refine (field_any (m k) 0 4 _ (by omega)).mono ?_; rintro e w' ⟨rfl, rfl⟩; rw [hf2.out])
          | (at_builtin; refine wpList_append_fits _ rfl _ _ 58 rfl (B + 1) 5 i0 1 Tryd.underlying58 hi hi1.out (B + 1) (n + 1 + 1) 17 _ rfl (hown3.alloc _) ⟨w3.heap.size, 0, none⟩ 1 1 [.int .u8 (digN d2 : Nat)] rfl rfl (cell_one_new _ _ _) (one_cell _ rfl) (by omega) ?_; intro w4 hown4 hgrow4))
        rw [rounds_succ]
        go_wp2_with fail
        have g2 := hgrow2.size
        have g3 := hgrow3.size
        have g4 := hgrow4.size
        simp at g2 g3 g4
        have hB2 := (hb.alloc (by omega) _).grown hgrow2 (by simp; omega) (by simp)
        have hB3 := (hB2.alloc (by omega) _).grown hgrow3 (by simp; omega) (by simp)
        have hB4 := (hB3.alloc (by omega) _).grown hgrow4 (by simp; omega) (by simp)
        have hs4 : B + 1 ≤ w4.heap.size := by omega
        rw [D1.out, D2.out, showT_next m k hc'] at hown4
        have ho4 := Lib.hid hown4
        clear hown2 hown3 hown4 hgrow2 hgrow3 hgrow4 g2 g3 g4 hB2 hB3
        go_roundw
        case rel => exact ⟨k + 1, n + 3, by omega, by go_num, by have h := HN.out; rw [showT_len] at h ⊢; rw [if_neg (by omega)] at h ⊢; omega, rfl, ho4.out, hB4, hs4⟩
        case measure => simp [intOf]; omega
    · have hk6 : k = 6 := by omega
      subst hk6
      have hn17 : n = 17 := by have h := HN.out; rw [showT_len] at h; simpa using h.symm
      subst hn17
      have hh := (Has.of_owns ho.out).text (P := Tryd.prog) (cap := 17) 58 9 5 Tryd.underlying58 Tryd.underlying5 Tryd.underlying9 17 (by rw [showT_len]; rfl)
      go_wp2
      go_ret
      exact ⟨rfl, by rw [HB.out]; exact hb⟩
end
end Go.Proofs.YtccbdmccfbjmeaaDoor
