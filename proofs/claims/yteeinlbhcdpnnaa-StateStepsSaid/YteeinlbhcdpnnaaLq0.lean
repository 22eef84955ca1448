/- Ports of plain data. -/
import Derived.Test.YteeinlbhcdpnnaaSa3
import Derived.Test.YteeinlbhcdpnnaaSa4
import Derived.Test.YteeinlbhcdpnnaaSa5
namespace Go.Proofs.Yteeinlbhcdpnnaa
open Go.RowKit
attribute [local irreducible] wpQuiet wpList
set_option linter.unusedSimpArgs false
set_option linter.unusedVariables false

theorem sizeLq : (Try.prog.info? 26).map (·.size) = some 15 := by kernel_rfl
theorem sizeA3 : (Try.prog.info? 23).map (·.size) = some 3 := by kernel_rfl
structure Lq where
 f0 : Bool
 f1 : Bool
 f2 : Bool
 f3 : Bool
 f4 : Bool
 n0 : Nat
 n1 : Nat
 n2 : Nat
 v0 : Nat
 v1 : Nat
 v2 : Nat
 k0 : Int
 k1 : Int
 k2 : Int
 k3 : Int
def lqA (x : Lq) : Array Value := #[.bool x.f0, .bool x.f1, .bool x.f2, .bool x.f3, .bool x.f4, .int .u8 (x.n0 : Nat), .int .u8 (x.n1 : Nat), .int .u8 (x.n2 : Nat), .int .u8 (x.v0 : Nat), .int .u8 (x.v1 : Nat), .int .u8 (x.v2 : Nat), .int .i32 x.k0, .int .i32 x.k1, .int .i32 x.k2, .int .i32 x.k3]
structure Lq.ok (x : Lq) : Prop where
 h0 : x.v0 < 256
 h1 : x.v1 < 256
 h2 : x.v2 < 256
 k0 : -2147483648 ≤ x.k2 ∧ x.k2 ≤ 2147483647
def vecQ (a b c : Nat) : Vc := ⟨a, b, c, 0⟩
def madeQ (y : Lq) : Po := ⟨0, 0, false, 0, 0, y.f4, y.f1, y.f0, y.f2, y.f3, (IntKind.i64.wrap (Int.tmod (y.n0 : Nat) 5)), (IntKind.i64.wrap (Int.tmod (y.n1 : Nat) 3)), (IntKind.i64.wrap (Int.tmod (y.n2 : Nat) 3)), ((vecQ y.v0 y.v1 y.v2).r : Nat), ((vecQ y.v0 y.v1 y.v2).c : Nat), ((vecQ y.v0 y.v1 y.v2).b : Nat), ((vecQ y.v0 y.v1 y.v2).p : Nat), (IntKind.i64.wrap y.k0), (IntKind.i64.wrap y.k1), (IntKind.i64.wrap y.k2), (IntKind.i64.wrap y.k3)⟩
theorem wrap_i64 {x : Int} (h0 : -9223372036854775808 ≤ x) (h1 : x < 9223372036854775808) : IntKind.i64.wrap x = x := by
 simp [IntKind.wrap, IntKind.bits, IntKind.signed]
 omega
theorem made_bounds (y : Lq) (h : y.ok) : 0 ≤ (madeQ y).p11 ∧ (madeQ y).p11 ≤ 2 ∧ -2147483648 ≤ (madeQ y).p19 ∧ (madeQ y).p19 ≤ 2147483647 := by
 have e : (madeQ y).p11 = IntKind.i64.wrap (Int.tmod (y.n1 : Nat) 3) := rfl
 have e2 : Int.tmod (y.n1 : Nat) 3 = ((y.n1 % 3 : Nat) : Int) := rfl
 have e3 : (madeQ y).p19 = IntKind.i64.wrap y.k2 := rfl
 rw [e, e2, e3, wrap_i64 (by omega) (by omega), wrap_i64 (by have := h.k0; omega) (by have := h.k0; omega)]
 have := h.k0
 omega
theorem madeQ_U (y : Lq) : poU (madeQ y) (vecQ y.v0 y.v1 y.v2) = madeQ y := rfl
theorem eq_po (x : Po) (W : World) : (Op.equalIn 10000 42 (poV x) (poV x)).run Try.prog W = .ok true W := by have h := equal_po x x W; rwa [eqB_self] at h
theorem eq_po2 {x y : Po} (h : x = y) : ∀ W : World, (Op.equalIn 10000 42 (poV x) (poV y)).run Try.prog W = .ok true W := fun W => by rw [← h]; exact eq_po x W
theorem equal_vc2 (u v : Vc) (b : Bool) (h : eqV u v = b) (W : World) : (Op.equalIn 10000 35 (vcV u) (vcV v)).run Try.prog W = .ok b W := h ▸ equal_vc u v W
theorem assume_is (y x q : Po) (u : Vc) (r : Int) (v : Vc) (c : Cf) (an op : Bool) (hy : y = poU x u) (hq : assumeP x u r v c.p3 = q) (ha : assumeN x u r v = an) (ho : openedB x q = op) (w : World) : Calls Try.prog 9 #[poV y, .int .i64 r, vcV v, cfV c] w fun e w' => e = .returned (.tuple #[poV q, .bool an, .bool op]) ∧ Below w.heap.size w w' := by
 subst hy hq ha ho
 exact assume_any x u r v c w
theorem step_is (x q : Po) (c : Cf) (op : Bool) (hq : stepP x c.p3 = q) (ho : openedB x q = op) (w : World) : Calls Try.prog 10 #[poV x, cfV c] w fun e w' => e = .returned (.tuple #[poV q, .bool op]) ∧ Below w.heap.size w w' := by
 subst hq ho
 exact step_any x c w
theorem agree_is (x q : Po) (op : Bool) (hq : agreeP x = q) (ho : openedB x q = op) (w : World) : Calls Try.prog 11 #[poV x] w fun e w' => e = .returned (.tuple #[poV q, .bool op]) ∧ Below w.heap.size w w' := by
 subst hq ho
 exact agree_any x w
theorem block_is (x q : Po) (c : Cf) (hq : blockP x c.p3 = q) (w : World) : Calls Try.prog 12 #[poV x, cfV c] w fun e w' => e = .returned (poV q) ∧ Below w.heap.size w w' := hq ▸ block_any x c w
end Go.Proofs.Yteeinlbhcdpnnaa
