/- BpduOpens of what came in. -/
import Derived.Test.YtkohnleeiajiiaaOpens
import Derived.Test.YtkohnleeiajiiaaBetterLaw
namespace Go.Proofs.Ytkohnleeiajiiaa
open Go.RowKit

theorem opens_law (x0 x1 x2 x3 x4 x5 : Int) (tg : Bool) (ty : Int) (da : ByteArray) (w : World) (g0 : (Lit.int .u8 x0).wf = true) (g1 : (Lit.int .u8 x1).wf = true) (g2 : (Lit.int .u8 x2).wf = true) (g3 : (Lit.int .u8 x3).wf = true) (g4 : (Lit.int .u8 x4).wf = true) (g5 : (Lit.int .u8 x5).wf = true)
    (ht : (Lit.int .u16 ty).wf = true) (hd : da.size ≤ maxLen) :
    Calls Try.prog 5 #[.agg #[.int .u8 x0, .int .u8 x1, .int .u8 x2, .int .u8 x3, .int .u8 x4, .int .u8 x5, .bool tg, .int .u16 ty, .string da]] w fun e w' => e = .returned (.bool true) ∧ Below w.heap.size w w' := by
  obtain ⟨ty, rfl, lt⟩ := nat_of_u16 ht
  obtain ⟨x0, rfl, -⟩ := nat_of_u8 g0
  obtain ⟨x1, rfl, -⟩ := nat_of_u8 g1
  obtain ⟨x2, rfl, -⟩ := nat_of_u8 g2
  obtain ⟨x3, rfl, -⟩ := nat_of_u8 g3
  obtain ⟨x4, rfl, -⟩ := nat_of_u8 g4
  obtain ⟨x5, rfl, -⟩ := nat_of_u8 g5
  exact opens_walk (fun i => [x0, x1, x2, x3, x4, x5].getD i 0) tg ty da w lt hd
end Go.Proofs.Ytkohnleeiajiiaa
