/- VectorLine of three vectors that came in. -/
import Derived.Test.YtkohnleeiajiiaaLine
import Derived.Test.YtkohnleeiajiiaaBetterLaw
namespace Go.Proofs.Ytkohnleeiajiiaa
open Go.RowKit

theorem line_law (r c b p r' c' b' p' r2 c2 b2 p2 : Int) (w : World) (h0 : (Lit.int .u64 r).wf = true) (h1 : (Lit.int .u32 c).wf = true) (h2 : (Lit.int .u64 b).wf = true) (h3 : (Lit.int .u16 p).wf = true)
    (g0 : (Lit.int .u64 r').wf = true) (g1 : (Lit.int .u32 c').wf = true) (g2 : (Lit.int .u64 b').wf = true) (g3 : (Lit.int .u16 p').wf = true)
    (k0 : (Lit.int .u64 r2).wf = true) (k1 : (Lit.int .u32 c2).wf = true) (k2 : (Lit.int .u64 b2).wf = true) (k3 : (Lit.int .u16 p2).wf = true) :
    Calls Try.prog 8 #[.agg #[.int .u64 r, .int .u32 c, .int .u64 b, .int .u16 p], .agg #[.int .u64 r', .int .u32 c', .int .u64 b', .int .u16 p'], .agg #[.int .u64 r2, .int .u32 c2, .int .u64 b2, .int .u16 p2]] w fun e w' => e = .returned (.bool true) ∧ Below w.heap.size w w' := by
  obtain ⟨r, rfl, -⟩ := nat_of_u64 h0
  obtain ⟨c, rfl, lc⟩ := nat_of_u32 h1
  obtain ⟨b, rfl, -⟩ := nat_of_u64 h2
  obtain ⟨p, rfl, -⟩ := nat_of_u16 h3
  obtain ⟨r', rfl, -⟩ := nat_of_u64 g0
  obtain ⟨c', rfl, lc'⟩ := nat_of_u32 g1
  obtain ⟨b', rfl, -⟩ := nat_of_u64 g2
  obtain ⟨p', rfl, -⟩ := nat_of_u16 g3
  obtain ⟨r2, rfl, -⟩ := nat_of_u64 k0
  obtain ⟨c2, rfl, -⟩ := nat_of_u32 k1
  obtain ⟨b2, rfl, -⟩ := nat_of_u64 k2
  obtain ⟨p2, rfl, -⟩ := nat_of_u16 k3
  exact line_walk ⟨r, c, b, p⟩ ⟨r', c', b', p'⟩ ⟨r2, c2, b2, p2⟩ w lc lc'
end Go.Proofs.Ytkohnleeiajiiaa
