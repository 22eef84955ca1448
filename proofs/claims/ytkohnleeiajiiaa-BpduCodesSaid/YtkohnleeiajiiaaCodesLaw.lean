/- BpduCodes of what came in. -/
import Derived.Test.YtkohnleeiajiiaaCodes
import Derived.Test.YtkohnleeiajiiaaLits
namespace Go.Proofs.Ytkohnleeiajiiaa
open Go.RowKit

theorem codes_law (x0 : Int) (x1 : Bool) (x2 : Bool) (x3 : Bool) (x4 : Bool) (x5 : Bool) (x6 : Bool) (x7 : Int) (x8 : Int) (x9 : Int) (x10 : Int) (x11 : Int) (x12 : Int) (x13 : Int) (x14 : Int) (x15 : Int) (a0 a1 a2 a3 a4 a5 : Int) (s : ByteArray) (w : World) (w0 : (Lit.int .u8 x0).wf = true) (w7 : (Lit.int .u8 x7).wf = true) (w8 : (Lit.int .u64 x8).wf = true) (w9 : (Lit.int .u32 x9).wf = true) (w10 : (Lit.int .u64 x10).wf = true) (w11 : (Lit.int .u16 x11).wf = true) (w12 : (Lit.int .u16 x12).wf = true) (w13 : (Lit.int .u16 x13).wf = true) (w14 : (Lit.int .u16 x14).wf = true) (w15 : (Lit.int .u16 x15).wf = true)
    (g0 : (Lit.int .u8 a0).wf = true) (g1 : (Lit.int .u8 a1).wf = true) (g2 : (Lit.int .u8 a2).wf = true) (g3 : (Lit.int .u8 a3).wf = true) (g4 : (Lit.int .u8 a4).wf = true) (g5 : (Lit.int .u8 a5).wf = true) (hs : s.size ≤ maxLen) :
    Calls Try.prog 3 #[.agg #[.int .u8 x0, .bool x1, .bool x2, .bool x3, .bool x4, .bool x5, .bool x6, .int .u8 x7, .int .u64 x8, .int .u32 x9, .int .u64 x10, .int .u16 x11, .int .u16 x12, .int .u16 x13, .int .u16 x14, .int .u16 x15], .agg #[.int .u8 a0, .int .u8 a1, .int .u8 a2, .int .u8 a3, .int .u8 a4, .int .u8 a5], .string s] w fun e w' => e = .returned (.bool true) ∧ Below w.heap.size w w' := by
  obtain ⟨x0, rfl, l0⟩ := nat_of_u8 w0
  obtain ⟨x7, rfl, l7⟩ := nat_of_u8 w7
  obtain ⟨x8, rfl, l8⟩ := nat_of_u64 w8
  obtain ⟨x9, rfl, l9⟩ := nat_of_u32 w9
  obtain ⟨x10, rfl, l10⟩ := nat_of_u64 w10
  obtain ⟨x11, rfl, l11⟩ := nat_of_u16 w11
  obtain ⟨x12, rfl, l12⟩ := nat_of_u16 w12
  obtain ⟨x13, rfl, l13⟩ := nat_of_u16 w13
  obtain ⟨x14, rfl, l14⟩ := nat_of_u16 w14
  obtain ⟨x15, rfl, l15⟩ := nat_of_u16 w15
  obtain ⟨a0, rfl, -⟩ := nat_of_u8 g0
  obtain ⟨a1, rfl, -⟩ := nat_of_u8 g1
  obtain ⟨a2, rfl, -⟩ := nat_of_u8 g2
  obtain ⟨a3, rfl, -⟩ := nat_of_u8 g3
  obtain ⟨a4, rfl, -⟩ := nat_of_u8 g4
  obtain ⟨a5, rfl, -⟩ := nat_of_u8 g5
  exact codes_walk ⟨x0, x1, x2, x3, x4, x5, x6, x7, x8, x9, x10, x11, x12, x13, x14, x15⟩ (fun i => [a0, a1, a2, a3, a4, a5].getD i 0) s w ⟨l0, l7, l8, l9, l10, l11, l12, l13, l14, l15⟩ hs
end Go.Proofs.Ytkohnleeiajiiaa
