/- Blocks of cells that are known whole. -/
import Derived.Test.YtpbdamnlfpfclaaMac
import Derived.Test.YtpbdamnlfpfclaaBks
import Derived.Laws.CopyOwn
import Derived.Lib.BufferWrite
namespace Go.Proofs.Ytpbdamnlfpfclaa
open Go.RowKit

theorem Blk.free6 {w : World} {g : Nat} {cs : Array Value} {t : TypeId} (h : Blk w g cs t) :
    w.frozen? ⟨g, 0, none⟩ = false ∧ w.frozen? ⟨g, 1, none⟩ = false ∧ w.frozen? ⟨g, 2, none⟩ = false ∧ w.frozen? ⟨g, 3, none⟩ = false ∧ w.frozen? ⟨g, 4, none⟩ = false ∧ w.frozen? ⟨g, 5, none⟩ = false :=
  ⟨h.free 0, h.free 1, h.free 2, h.free 3, h.free 4, h.free 5⟩

/-- Six cells known whole, one by one. -/
theorem Blk.six {w : World} {g : Nat} {t : TypeId} {c0 c1 c2 c3 c4 c5 : Value} (h : Blk w g #[c0, c1, c2, c3, c4, c5] t) :
    w.cell? ⟨g, 0, none⟩ = some c0 ∧ w.cell? ⟨g, 1, none⟩ = some c1 ∧ w.cell? ⟨g, 2, none⟩ = some c2 ∧ w.cell? ⟨g, 3, none⟩ = some c3 ∧ w.cell? ⟨g, 4, none⟩ = some c4 ∧ w.cell? ⟨g, 5, none⟩ = some c5 :=
  ⟨h.cell 0, h.cell 1, h.cell 2, h.cell 3, h.cell 4, h.cell 5⟩

/-- Six bytes as an array of cells. -/
abbrev macA (m : Nat → Nat) : Array Value := #[.int .u8 (m 0 : Nat), .int .u8 (m 1 : Nat), .int .u8 (m 2 : Nat), .int .u8 (m 3 : Nat), .int .u8 (m 4 : Nat), .int .u8 (m 5 : Nat)]

theorem bytes6 (x : Nat) : (Lib.byteCells (Nums.bytesN x 6)) = macL (byteF x) := by
  simp [Nums.bytesN, Lib.byteCells, macL, byteF]

theorem copy_six (w : World) (g x : Nat) (ty : TypeId) (cur : Array Value) (hc : cur.size = 6) (h : Blk w g cur 56) :
    (Builtin.copy_ #[83, 9] ty #[.slice (some ⟨g, 0, none⟩) 6 6, .string ⟨(Nums.bytesN x 6).toArray⟩]).run Try.prog w = .ok (goInt 6) (w.setRow g (macA (byteF x))) := by
  have hs : (⟨(Nums.bytesN x 6).toArray⟩ : ByteArray).size = 6 := by show (Nums.bytesN x 6).toArray.size = 6; simp [Nums.bytesN_length]
  obtain ⟨i, hi, _, h1, _⟩ := info_parts Try.info5'
  have := Lib.run_copy_row_string (P := Try.prog) w 83 9 ty 5 g 0 6 6 ⟨(Nums.bytesN x 6).toArray⟩ cur 56 Try.underlying83 (by rw [hi]; simp [h1]) h (by omega) (by omega)
  rw [this, hs]
  have hd : cur.toList.drop (0 + 6) = [] := List.drop_eq_nil_of_le (by rw [Array.length_toList]; omega)
  rw [hd]
  simp only [bytes6, List.take_zero, List.nil_append, List.append_nil]
  rfl

end Go.Proofs.Ytpbdamnlfpfclaa
