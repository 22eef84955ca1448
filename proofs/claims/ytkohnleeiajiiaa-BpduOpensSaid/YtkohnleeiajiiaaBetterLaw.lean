/- VectorBetter of two vectors and a cost that came in. -/
import Derived.Test.YtkohnleeiajiiaaBetter
import Derived.OpenShut
namespace Go.Proofs.Ytkohnleeiajiiaa
open Go.RowKit

theorem nat_of_u8 {a : Int} (h : (Lit.int .u8 a).wf = true) : ∃ n : Nat, a = (n : Int) ∧ n < 256 := by
  have hb := bounds_u8 h
  obtain ⟨n, rfl⟩ := Int.eq_ofNat_of_zero_le hb.1
  exact ⟨n, rfl, by omega⟩
theorem nat_of_u16 {a : Int} (h : (Lit.int .u16 a).wf = true) : ∃ n : Nat, a = (n : Int) ∧ n < 65536 := by
  have hb := bounds_u16 h
  obtain ⟨n, rfl⟩ := Int.eq_ofNat_of_zero_le hb.1
  exact ⟨n, rfl, by omega⟩
theorem nat_of_u32 {a : Int} (h : (Lit.int .u32 a).wf = true) : ∃ n : Nat, a = (n : Int) ∧ n < 4294967296 := by
  have hb := bounds_u32 h
  obtain ⟨n, rfl⟩ := Int.eq_ofNat_of_zero_le hb.1
  exact ⟨n, rfl, by omega⟩
theorem nat_of_u64 {a : Int} (h : (Lit.int .u64 a).wf = true) : ∃ n : Nat, a = (n : Int) ∧ n < 18446744073709551616 := by
  have hb := bounds_u64 h
  obtain ⟨n, rfl⟩ := Int.eq_ofNat_of_zero_le hb.1
  exact ⟨n, rfl, by omega⟩

theorem better_law (r c b p r' c' b' p' k : Int) (w : World) (h0 : (Lit.int .u64 r).wf = true) (h1 : (Lit.int .u32 c).wf = true) (h2 : (Lit.int .u64 b).wf = true) (h3 : (Lit.int .u16 p).wf = true)
    (g0 : (Lit.int .u64 r').wf = true) (g1 : (Lit.int .u32 c').wf = true) (g2 : (Lit.int .u64 b').wf = true) (g3 : (Lit.int .u16 p').wf = true) (hk : (Lit.int .u32 k).wf = true) :
    Calls Try.prog 6 #[.agg #[.int .u64 r, .int .u32 c, .int .u64 b, .int .u16 p], .agg #[.int .u64 r', .int .u32 c', .int .u64 b', .int .u16 p'], .int .u32 k] w fun e w' => e = .returned (.bool true) ∧ Below w.heap.size w w' := by
  obtain ⟨r, rfl, -⟩ := nat_of_u64 h0
  obtain ⟨c, rfl, lc⟩ := nat_of_u32 h1
  obtain ⟨b, rfl, -⟩ := nat_of_u64 h2
  obtain ⟨p, rfl, -⟩ := nat_of_u16 h3
  obtain ⟨r', rfl, -⟩ := nat_of_u64 g0
  obtain ⟨c', rfl, -⟩ := nat_of_u32 g1
  obtain ⟨b', rfl, -⟩ := nat_of_u64 g2
  obtain ⟨p', rfl, -⟩ := nat_of_u16 g3
  obtain ⟨k, rfl, lk⟩ := nat_of_u32 hk
  exact better_walk ⟨r, c, b, p⟩ ⟨r', c', b', p'⟩ k w lc lk
end Go.Proofs.Ytkohnleeiajiiaa
