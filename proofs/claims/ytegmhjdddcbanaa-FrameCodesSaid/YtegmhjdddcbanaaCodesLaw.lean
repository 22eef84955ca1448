/- FrameCodes of a frame that came in. -/
import Derived.Test.YtegmhjdddcbanaaCodes
import Derived.OpenShut
namespace Go.Proofs.Ytegmhjdddcbanaa
open Go.RowKit

theorem byte_nat {a : Int} (h : (Lit.int .u8 a).wf = true) : ∃ n : Nat, a = (n : Int) ∧ n < 256 := by
  have hb := bounds_u8 h
  obtain ⟨n, rfl⟩ := Int.eq_ofNat_of_zero_le hb.1
  exact ⟨n, rfl, by omega⟩
theorem word_nat {a : Int} (h : (Lit.int .u16 a).wf = true) : ∃ n : Nat, a = (n : Int) ∧ n < 65536 := by
  have hb := bounds_u16 h
  obtain ⟨n, rfl⟩ := Int.eq_ofNat_of_zero_le hb.1
  exact ⟨n, rfl, by omega⟩

theorem codes_law (x0 x1 x2 x3 x4 x5 y0 y1 y2 y3 y4 y5 : Int) (tg : Bool) (pc : Int) (de : Bool) (vi ty : Int) (da : ByteArray) (w : World)
    (g0 : (Lit.int .u8 x0).wf = true) (g1 : (Lit.int .u8 x1).wf = true) (g2 : (Lit.int .u8 x2).wf = true) (g3 : (Lit.int .u8 x3).wf = true) (g4 : (Lit.int .u8 x4).wf = true) (g5 : (Lit.int .u8 x5).wf = true)
    (k0 : (Lit.int .u8 y0).wf = true) (k1 : (Lit.int .u8 y1).wf = true) (k2 : (Lit.int .u8 y2).wf = true) (k3 : (Lit.int .u8 y3).wf = true) (k4 : (Lit.int .u8 y4).wf = true) (k5 : (Lit.int .u8 y5).wf = true)
    (hp : (Lit.int .u8 pc).wf = true) (hv : (Lit.int .u16 vi).wf = true) (ht : (Lit.int .u16 ty).wf = true) (hd : da.size ≤ maxLen) :
    Calls Try.prog 6 #[.agg #[.int .u8 x0, .int .u8 x1, .int .u8 x2, .int .u8 x3, .int .u8 x4, .int .u8 x5, .int .u8 y0, .int .u8 y1, .int .u8 y2, .int .u8 y3, .int .u8 y4, .int .u8 y5, .bool tg, .int .u8 pc, .bool de, .int .u16 vi, .int .u16 ty, .string da]] w fun e w' => e = .returned (.bool true) ∧ Below w.heap.size w w' := by
  obtain ⟨x0, rfl, a0⟩ := byte_nat g0
  obtain ⟨x1, rfl, a1⟩ := byte_nat g1
  obtain ⟨x2, rfl, a2⟩ := byte_nat g2
  obtain ⟨x3, rfl, a3⟩ := byte_nat g3
  obtain ⟨x4, rfl, a4⟩ := byte_nat g4
  obtain ⟨x5, rfl, a5⟩ := byte_nat g5
  obtain ⟨y0, rfl, b0⟩ := byte_nat k0
  obtain ⟨y1, rfl, b1⟩ := byte_nat k1
  obtain ⟨y2, rfl, b2⟩ := byte_nat k2
  obtain ⟨y3, rfl, b3⟩ := byte_nat k3
  obtain ⟨y4, rfl, b4⟩ := byte_nat k4
  obtain ⟨y5, rfl, b5⟩ := byte_nat k5
  obtain ⟨pc, rfl, _⟩ := byte_nat hp
  obtain ⟨vi, rfl, _⟩ := word_nat hv
  obtain ⟨ty, rfl, lt⟩ := word_nat ht
  exact codes_walk (fun i => [x0, x1, x2, x3, x4, x5].getD i 0) (fun i => [y0, y1, y2, y3, y4, y5].getD i 0) tg pc de vi ty da w ⟨a0, a1, a2, a3, a4, a5⟩ ⟨b0, b1, b2, b3, b4, b5⟩ lt hd
end Go.Proofs.Ytegmhjdddcbanaa
