/- The developers' table: no table. -/
import Derived.Test.YtjipbdljljhijaaList8
import Derived.Test.YtjipbdljljhijaaSet8
namespace Go.Proofs.Ytjipbdljljhijaa
open Go.RowKit
set_option linter.unusedSimpArgs false
set_option linter.unusedVariables false

theorem nil_get (w : World) : Calls Try.prog 20 #[.pointer none, .int .u16 1] w fun e w' => e = .returned (.tuple #[.agg vlNilA, .bool false]) ∧ Below w.heap.size w w' := by
  have HB := Lib.hid ((Below.refl w.heap.size w).alloc (Nat.le_refl _) (.cells vlNilA 48))
  go_enter Try.func20, Try.ntmps20
  go_wp2
  exact bodyPost_ret (v := .tuple #[.agg vlNilA, .bool false]) (results_row_tmp Try.results20 _ _ w.heap.size 48 vlNilA _ _ rfl rfl (Blk.new w vlNilA 48) Try.underlying48 rfl vinfo48) rfl ⟨rfl, HB.out⟩

theorem nil_set (w : World) (x : Vl) : Calls Try.prog 22 #[.pointer none, vlV x] w fun e w' => e = .returned (.int .i64 1) ∧ Below w.heap.size w w' := by
  obtain ⟨v, m, u⟩ := x
  have HB := Lib.hid ((Below.refl w.heap.size w).alloc (Nat.le_refl _) (.cells (vlA ⟨v, m, u⟩) 48))
  go_enter Try.func22, Try.ntmps22
  go_wp2
  go_ret
  exact ⟨rfl, HB.out⟩

theorem nil_drop (w : World) : Calls Try.prog 18 #[.pointer none, .int .u16 1] w fun e w' => e = .returned (.int .i64 1) ∧ Below w.heap.size w w' := by
  go_enter Try.func18, Try.ntmps18
  go_wp2
  go_ret
  exact ⟨rfl, Below.refl _ _⟩

theorem nil_list (w : World) : Calls Try.prog 24 #[.pointer none] w fun e w' => ∃ (A : Option Addr) (c : Nat), e = .returned (.slice A 0 c) ∧ Below w.heap.size w w' := by
  go_enter Try.func24, Try.ntmps24
  go_wp2
  go_ret
  exact ⟨_, _, rfl, Below.refl _ _⟩
end Go.Proofs.Ytjipbdljljhijaa
