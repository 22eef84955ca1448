/- AddrIDs of two priorities and two addresses that came in. -/
import Derived.Test.YtegmhjdddcbanaaIDsW
import Derived.OpenShut
namespace Go.Proofs.Ytegmhjdddcbanaa
open Go.RowKit

theorem nat_of_u8 {a : Int} (h : (Lit.int .u8 a).wf = true) : ∃ n : Nat, a = (n : Int) ∧ n < 256 := by
  have hb := bounds_u8 h
  obtain ⟨n, rfl⟩ := Int.eq_ofNat_of_zero_le hb.1
  exact ⟨n, rfl, by omega⟩
theorem nat_of_u16 {a : Int} (h : (Lit.int .u16 a).wf = true) : ∃ n : Nat, a = (n : Int) ∧ n < 65536 := by
  have hb := bounds_u16 h
  obtain ⟨n, rfl⟩ := Int.eq_ofNat_of_zero_le hb.1
  exact ⟨n, rfl, by omega⟩

theorem ids_law (p q x0 x1 x2 x3 x4 x5 y0 y1 y2 y3 y4 y5 : Int) (w : World) (hp : (Lit.int .u16 p).wf = true) (hq : (Lit.int .u16 q).wf = true)
    (g0 : (Lit.int .u8 x0).wf = true) (g1 : (Lit.int .u8 x1).wf = true) (g2 : (Lit.int .u8 x2).wf = true) (g3 : (Lit.int .u8 x3).wf = true) (g4 : (Lit.int .u8 x4).wf = true) (g5 : (Lit.int .u8 x5).wf = true)
    (k0 : (Lit.int .u8 y0).wf = true) (k1 : (Lit.int .u8 y1).wf = true) (k2 : (Lit.int .u8 y2).wf = true) (k3 : (Lit.int .u8 y3).wf = true) (k4 : (Lit.int .u8 y4).wf = true) (k5 : (Lit.int .u8 y5).wf = true) :
    Calls Try.prog 5 #[.agg #[.int .u16 p, .int .u16 q], .agg #[.int .u8 x0, .int .u8 x1, .int .u8 x2, .int .u8 x3, .int .u8 x4, .int .u8 x5], .agg #[.int .u8 y0, .int .u8 y1, .int .u8 y2, .int .u8 y3, .int .u8 y4, .int .u8 y5]] w fun e w' => e = .returned (.bool true) ∧ Below w.heap.size w w' := by
  obtain ⟨p, rfl, lp⟩ := nat_of_u16 hp
  obtain ⟨q, rfl, lq⟩ := nat_of_u16 hq
  obtain ⟨x0, rfl, a0⟩ := nat_of_u8 g0
  obtain ⟨x1, rfl, a1⟩ := nat_of_u8 g1
  obtain ⟨x2, rfl, a2⟩ := nat_of_u8 g2
  obtain ⟨x3, rfl, a3⟩ := nat_of_u8 g3
  obtain ⟨x4, rfl, a4⟩ := nat_of_u8 g4
  obtain ⟨x5, rfl, a5⟩ := nat_of_u8 g5
  obtain ⟨y0, rfl, b0⟩ := nat_of_u8 k0
  obtain ⟨y1, rfl, b1⟩ := nat_of_u8 k1
  obtain ⟨y2, rfl, b2⟩ := nat_of_u8 k2
  obtain ⟨y3, rfl, b3⟩ := nat_of_u8 k3
  obtain ⟨y4, rfl, b4⟩ := nat_of_u8 k4
  obtain ⟨y5, rfl, b5⟩ := nat_of_u8 k5
  exact ids_walk p q (fun i => [x0, x1, x2, x3, x4, x5].getD i 0) (fun i => [y0, y1, y2, y3, y4, y5].getD i 0) w lp lq ⟨a0, a1, a2, a3, a4, a5⟩ ⟨b0, b1, b2, b3, b4, b5⟩
end Go.Proofs.Ytegmhjdddcbanaa
