/- AddrTells of six bytes that came in. -/
import Derived.Test.YtegmhjdddcbanaaTells
import Derived.OpenShut
namespace Go.Proofs.Ytegmhjdddcbanaa
open Go.RowKit

/-- Six bytes that came in, as numbers. -/
theorem tells_law (x0 x1 x2 x3 x4 x5 n : Int) (w : World) (h0 : (Lit.int .u8 x0).wf = true) (h1 : (Lit.int .u8 x1).wf = true) (h2 : (Lit.int .u8 x2).wf = true) (h3 : (Lit.int .u8 x3).wf = true) (h4 : (Lit.int .u8 x4).wf = true) (h5 : (Lit.int .u8 x5).wf = true) (hn : (Lit.int .u64 n).wf = true) :
    Calls Try.prog 3 #[.agg #[.int .u8 x0, .int .u8 x1, .int .u8 x2, .int .u8 x3, .int .u8 x4, .int .u8 x5], .int .u64 n] w fun e w' => e = .returned (.bool true) ∧ Below w.heap.size w w' := by
  have b0 := bounds_u8 h0
  have b1 := bounds_u8 h1
  have b2 := bounds_u8 h2
  have b3 := bounds_u8 h3
  have b4 := bounds_u8 h4
  have b5 := bounds_u8 h5
  have bn := bounds_u64 hn
  obtain ⟨y0, rfl⟩ := Int.eq_ofNat_of_zero_le b0.1
  obtain ⟨y1, rfl⟩ := Int.eq_ofNat_of_zero_le b1.1
  obtain ⟨y2, rfl⟩ := Int.eq_ofNat_of_zero_le b2.1
  obtain ⟨y3, rfl⟩ := Int.eq_ofNat_of_zero_le b3.1
  obtain ⟨y4, rfl⟩ := Int.eq_ofNat_of_zero_le b4.1
  obtain ⟨y5, rfl⟩ := Int.eq_ofNat_of_zero_le b5.1
  obtain ⟨n, rfl⟩ := Int.eq_ofNat_of_zero_le bn.1
  exact tells_walk (fun i => [y0, y1, y2, y3, y4, y5].getD i 0) n w ⟨by show y0 < 256; omega, by show y1 < 256; omega, by show y2 < 256; omega, by show y3 < 256; omega, by show y4 < 256; omega, by show y5 < 256; omega⟩ (by omega)
end Go.Proofs.Ytegmhjdddcbanaa
