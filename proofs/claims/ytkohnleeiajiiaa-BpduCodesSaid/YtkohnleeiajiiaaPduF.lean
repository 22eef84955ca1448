/- PDUs: what the functions of package bpdu do that only compute, and the document's own answers. -/
import Derived.Test.YtkohnleeiajiiaaPdu
namespace Go.Proofs.Ytkohnleeiajiiaa
open Go.RowKit
set_option linter.unusedSimpArgs false

/-- A kind's version, and what stands at its end. -/
def verN (k : Nat) : Nat := if k = 2 then 2 else 0
def endS (k : Nat) : ByteArray := if k = 2 then ⟨#[0]⟩ else ⟨#[]⟩

set_option maxHeartbeats 1000000 in
theorem version_any (k : Nat) (w : World) : Calls Try.prog 28 #[.int .u8 (k : Nat)] w fun e w' => e = .returned (.int .u64 (verN k : Nat)) ∧ w = w' := by
  by_cases c : k = 2
  · subst c
    go_enter Try.func28, Try.ntmps28
    go_wp2
    go_ret
    exact ⟨rfl, rfl⟩
  · have e : ((k : Int) == 2) = false := by simp; omega
    have V := Lib.hid (show verN k = 0 by unfold verN; rw [if_neg c])
    clear c
    go_enter Try.func28, Try.ntmps28
    go_wp2
    go_ret
    exact ⟨ret_int (by rw [V.out]; rfl), rfl⟩

theorem ret_str {a b : ByteArray} (h : a = b) : Ending.returned (.string a) = .returned (.string b) := by rw [h]

set_option maxHeartbeats 1000000 in
theorem end5_any (k : Nat) (w : World) : Calls Try.prog 30 #[.int .u8 (k : Nat)] w fun e w' => e = .returned (.string (endS k)) ∧ w = w' := by
  by_cases c : k = 2
  · subst c
    go_enter Try.func30, Try.ntmps30
    go_wp2
    go_ret
    exact ⟨rfl, rfl⟩
  · have e : ((k : Int) == 2) = false := by simp; omega
    have V := Lib.hid (show endS k = ⟨#[]⟩ by unfold endS; rw [if_neg c])
    clear c
    go_enter Try.func30, Try.ntmps30
    go_wp2
    go_ret
    exact ⟨ret_str (by rw [V.out]), rfl⟩

set_option maxHeartbeats 1000000 in
theorem bit_any (b : Bool) (w : World) : Calls Try.prog 50 #[.bool b] w fun e w' => e = .returned (.int .u64 (b.toNat : Nat)) ∧ w = w' := by
  cases b
  all_goals
    go_enter Try.func50, Try.ntmps50
    go_wp2
    go_ret
    exact ⟨rfl, rfl⟩

set_option maxHeartbeats 1000000 in
theorem one_any (b : Bool) (w : World) : Calls Try.prog 32 #[.bool b] w fun e w' => e = .returned (.int .u64 (b.toNat : Nat)) ∧ w = w' := by
  cases b
  all_goals
    go_enter Try.func32, Try.ntmps32
    go_wp2
    go_ret
    exact ⟨rfl, rfl⟩

set_option maxRecDepth 100000 in
set_option maxHeartbeats 4000000 in
theorem ptold_any (p : Pd) (w : World) : Calls Try.prog 10 #[pdV p] w fun e w' => e = .returned (pdV p) ∧ Below w.heap.size w w' := by
  have hi := Lib.hid size31
  have hb := ((Below.refl w.heap.size w).alloc (Nat.le_refl _) (Obj.cells (pdA p) 26)).alloc (by simp) (Obj.cells (pdA p) 31)
  have hr := Blk.new (w.alloc (Obj.cells (pdA p) 26)) (pdA p) 31
  rw [show (w.alloc (Obj.cells (pdA p) 26)).heap.size = w.heap.size + 1 by simp] at hr
  have R := Lib.hid hr
  clear hr
  go_enter Try.func10, Try.ntmps10
  go_wp2_with fail
  exact bodyPost_ret (v := pdV p) (results_cell_row Try.results10 _ _ (w.heap.size + 1) 31 (pdA p) (0, 0) _ rfl R.out Try.underlying31 rfl hi.out) rfl ⟨rfl, hb⟩

end Go.Proofs.Ytkohnleeiajiiaa
