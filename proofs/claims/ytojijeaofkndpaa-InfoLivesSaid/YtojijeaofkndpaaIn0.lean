/- Ports as layer 16 sees them; the answers of anew, takes, Hear, Fade. -/
import Derived.Test.YtojijeaofkndpaaKb
import Derived.Test.YtojijeaofkndpaaLess
import Derived.Test.YtojijeaofkndpaaCst
namespace Go.Proofs.Ytojijeaofkndpaa
open Go.RowKit
attribute [local irreducible] wpQuiet wpList
set_option linter.unusedSimpArgs false
set_option linter.unusedVariables false

/-- A port whose vector is that one. -/
def poU (x : Po) (u : Vc) : Po := ⟨x.p0, x.p1, x.p2, x.p3, x.p4, x.p5, x.p6, x.p7, x.p8, x.p9, x.p10, x.p11, x.p12, (u.r : Nat), (u.c : Nat), (u.b : Nat), (u.p : Nat), x.p17, x.p18, x.p19, x.p20⟩
abbrev nil6 : Array Value := #[.int .u64 0, .int .i64 0, .int .i64 0, .int .i64 0, .int .i64 0, .int .i64 0]
theorem zV : ∀ W : World, (zeroValue 44).run Try.prog W = .ok (.agg nil4) W := fun W => Try.zeroValue44 W
theorem zC : ∀ W : World, (zeroValue 58).run Try.prog W = .ok (.agg nil6) W := fun W => Try.zeroValue58 W
theorem size55 : (Try.prog.info? 55).map (·.size) = some 17 := by kernel_rfl
theorem size52 : (Try.prog.info? 52).map (·.size) = some 4 := by kernel_rfl
theorem size56 : (Try.prog.info? 56).map (·.size) = some 3 := by kernel_rfl
theorem size71 : (Try.prog.info? 71).map (·.size) = some 2 := by kernel_rfl
theorem on_is (x : Po) (b : Bool) (h : onP x = b) (w : World) : Calls Try.prog 27 #[poV x] w fun e w' => e = .returned (.bool b) ∧ Below w.heap.size w w' := h ▸ on_any x w
/-- Is it told by the same one? -/
def anewB (x : Po) (u v : Vc) : Bool := decide (x.p12 = 2) && (decide (v.b = u.b) && decide (v.p = u.p))
/-- Does a port take it? -/
def takesB (x : Po) (u v : Vc) : Bool := anewB x u v || (lessV v u || decide (x.p12 = 0))
end Go.Proofs.Ytojijeaofkndpaa
