/- Vectors: what the functions of package vector do with one or two, and the document's own answers. -/
import Derived.Test.YtojijeaofkndpaaEls
namespace Go.Proofs.Ytojijeaofkndpaa
open Go.RowKit

theorem ret_bool {a b : Bool} (h : a = b) : Ending.returned (.bool a) = .returned (.bool b) := by rw [h]
/-- A vector's numbers. -/
structure Vc where
  r : Nat
  c : Nat
  b : Nat
  p : Nat

def Vc.ok (x : Vc) : Prop := x.r < 18446744073709551616 ∧ x.c < 4294967296 ∧ x.b < 18446744073709551616 ∧ x.p < 65536

/-- .. as cells, and by value. -/
abbrev vcA (x : Vc) : Array Value := #[.int .u64 (x.r : Nat), .int .u32 (x.c : Nat), .int .u64 (x.b : Nat), .int .u16 (x.p : Nat)]
abbrev vcV (x : Vc) : Value := .agg (vcA x)
abbrev nil4 : Array Value := #[.int .u64 0, .int .u32 0, .int .u64 0, .int .u16 0]

/-- Is it better? -/
def lessV (x y : Vc) : Bool := if x.r = y.r then (if x.c = y.c then (if x.b = y.b then decide (x.p < y.p) else decide (x.b < y.b)) else decide (x.c < y.c)) else decide (x.r < y.r)
/-- One whose cost is more. -/
def plusV (x : Vc) (k : Nat) : Vc := { x with c := if 4294967295 < x.c + k then 4294967295 else x.c + k }

theorem plusV_ok {x : Vc} (h : x.ok) (k : Nat) : (plusV x k).ok := by
  obtain ⟨h1, h2, h3, h4⟩ := h
  refine ⟨h1, ?_, h3, h4⟩
  show (if 4294967295 < x.c + k then 4294967295 else x.c + k) < _
  split <;> omega

theorem sizeVr : (Try.prog.info? 42).map (·.size) = some 4 := by kernel_rfl
theorem sizeV : (Try.prog.info? 44).map (·.size) = some 4 := by kernel_rfl
theorem vcA_one (x : Vc) : (vcA x).all (·.oneCell') = true := by simp [Value.oneCell']

set_option maxHeartbeats 1000000 in
theorem better_any (x y : Vc) (w : World) : Calls Try.prog 13 #[vcV x, vcV y] w fun e w' => e = .returned (.bool (lessV x y)) ∧ Below w.heap.size w w' := by
  have hb := ((Below.refl w.heap.size w).alloc (Nat.le_refl _) (Obj.cells (vcA x) 44)).alloc (by simp) (Obj.cells (vcA y) 44)
  by_cases a1 : x.r = y.r
  · have e1 : ((x.r : Int) != (y.r : Int)) = false := by simp [a1]
    by_cases a2 : x.c = y.c
    · have e2 : ((x.c : Int) != (y.c : Int)) = false := by simp [a2]
      by_cases a3 : x.b = y.b
      · have e3 : ((x.b : Int) != (y.b : Int)) = false := by simp [a3]
        have L := Lib.hid (show lessV x y = decide (x.p < y.p) by unfold lessV; rw [if_pos a1, if_pos a2, if_pos a3])
        clear a1 a2 a3
        go_enter Try.func13, Try.ntmps13
        go_wp2
        go_ret
        exact ⟨ret_bool (by rw [L.out]), hb⟩
      · have e3 : ((x.b : Int) != (y.b : Int)) = true := by simp; omega
        have L := Lib.hid (show lessV x y = decide (x.b < y.b) by unfold lessV; rw [if_pos a1, if_pos a2, if_neg a3])
        clear a1 a2 a3
        go_enter Try.func13, Try.ntmps13
        go_wp2
        go_ret
        exact ⟨ret_bool (by rw [L.out]), hb⟩
    · have e2 : ((x.c : Int) != (y.c : Int)) = true := by simp; omega
      have L := Lib.hid (show lessV x y = decide (x.c < y.c) by unfold lessV; rw [if_pos a1, if_neg a2])
      clear a1 a2
      go_enter Try.func13, Try.ntmps13
      go_wp2
      go_ret
      exact ⟨ret_bool (by rw [L.out]), hb⟩
  · have e1 : ((x.r : Int) != (y.r : Int)) = true := by simp; omega
    have L := Lib.hid (show lessV x y = decide (x.r < y.r) by unfold lessV; rw [if_neg a1])
    clear a1
    go_enter Try.func13, Try.ntmps13
    go_wp2
    go_ret
    exact ⟨ret_bool (by rw [L.out]), hb⟩

set_option maxHeartbeats 1000000 in
theorem rbetter_any (x y : Vc) (w : World) : Calls Try.prog 26 #[vcV x, vcV y] w fun e w' => e = .returned (.bool (lessV x y)) ∧ Below w.heap.size w w' := by
  have hb := ((Below.refl w.heap.size w).alloc (Nat.le_refl _) (Obj.cells (vcA x) 42)).alloc (by simp) (Obj.cells (vcA y) 42)
  by_cases a1 : x.r = y.r
  · have e1 : ((x.r : Int) != (y.r : Int)) = false := by simp [a1]
    by_cases a2 : x.c = y.c
    · have e2 : ((x.c : Int) != (y.c : Int)) = false := by simp [a2]
      by_cases a3 : x.b = y.b
      · have e3 : ((x.b : Int) != (y.b : Int)) = false := by simp [a3]
        have L := Lib.hid (show lessV x y = decide (x.p < y.p) by unfold lessV; rw [if_pos a1, if_pos a2, if_pos a3])
        clear a1 a2 a3
        go_enter Try.func26, Try.ntmps26
        go_wp2
        go_ret
        exact ⟨ret_bool (by rw [L.out]), hb⟩
      · have e3 : ((x.b : Int) != (y.b : Int)) = true := by simp; omega
        have L := Lib.hid (show lessV x y = decide (x.b < y.b) by unfold lessV; rw [if_pos a1, if_pos a2, if_neg a3])
        clear a1 a2 a3
        go_enter Try.func26, Try.ntmps26
        go_wp2
        go_ret
        exact ⟨ret_bool (by rw [L.out]), hb⟩
    · have e2 : ((x.c : Int) != (y.c : Int)) = true := by simp; omega
      have L := Lib.hid (show lessV x y = decide (x.c < y.c) by unfold lessV; rw [if_pos a1, if_neg a2])
      clear a1 a2
      go_enter Try.func26, Try.ntmps26
      go_wp2
      go_ret
      exact ⟨ret_bool (by rw [L.out]), hb⟩
  · have e1 : ((x.r : Int) != (y.r : Int)) = true := by simp; omega
    have L := Lib.hid (show lessV x y = decide (x.r < y.r) by unfold lessV; rw [if_neg a1])
    clear a1
    go_enter Try.func26, Try.ntmps26
    go_wp2
    go_ret
    exact ⟨ret_bool (by rw [L.out]), hb⟩

theorem plusV_yes (x : Vc) (k : Nat) (h : 4294967295 < x.c + k) : plusV x k = { x with c := 4294967295 } := by unfold plusV; rw [if_pos h]
theorem plusV_no (x : Vc) (k : Nat) (h : ¬ 4294967295 < x.c + k) : plusV x k = { x with c := x.c + k } := by unfold plusV; rw [if_neg h]

theorem two_new (w : World) (A : Array Value) (t : TypeId) : Blk ((w.alloc (Obj.cells A t)).alloc (Obj.cells A t)) (w.heap.size + 1) A t := by
  have := Blk.new (w.alloc (Obj.cells A t)) A t
  rwa [show (w.alloc (Obj.cells A t)).heap.size = w.heap.size + 1 by simp] at this

set_option maxHeartbeats 1000000 in
theorem plus_any (x : Vc) (k : Nat) (w : World) (hx : x.c < 4294967296) (hk : k < 4294967296) : Calls Try.prog 34 #[vcV x, .int .u32 (k : Nat)] w fun e w' => e = .returned (vcV (plusV x k)) ∧ Below w.heap.size w w' := by
  have hi := Lib.hid sizeV
  have fin := fun A => Lib.hid (two_new w A 44)
  have l1 : (x.c : Int) < 4294967296 := by omega
  have hb : ∀ A, Below w.heap.size w ((w.alloc (Obj.cells A 44)).alloc (Obj.cells A 44)) := fun A => ((Below.refl _ _).alloc (Nat.le_refl _) _).alloc (by simp) _
  by_cases c : 4294967295 < x.c + k
  · have d1 : (4294967295 : Int) - (x.c : Int) < (k : Int) := by omega
    have E := Lib.hid (show (x.c : Int) + (4294967295 - (x.c : Int)) = ((4294967295 : Nat) : Int) by omega)
    have L := Lib.hid (plusV_yes x k c)
    clear c
    go_enter Try.func34, Try.ntmps34
    go_wp2
    refine bodyPost_ret (v := .agg _) (results_cell_row Try.results34 _ _ (w.heap.size + 1) 44 _ (0, 0) _ rfl (fin _).out Try.underlying44 rfl hi.out) rfl ⟨?_, hb _⟩
    rw [L.out, E.out]
  · have d1 : ¬ (4294967295 : Int) - (x.c : Int) < (k : Int) := by omega
    have l2 : (x.c : Int) + (k : Int) < 4294967296 := by omega
    have L := Lib.hid (plusV_no x k c)
    clear c
    go_enter Try.func34, Try.ntmps34
    go_wp2
    refine bodyPost_ret (v := .agg _) (results_cell_row Try.results34 _ _ (w.heap.size + 1) 44 _ (0, 0) _ rfl (fin _).out Try.underlying44 rfl hi.out) rfl ⟨?_, hb _⟩
    rw [L.out]
    simp

set_option maxHeartbeats 1000000 in
theorem rplus_any (x : Vc) (k : Nat) (w : World) (hx : x.c < 4294967296) (hk : k < 4294967296) : Calls Try.prog 25 #[vcV x, .int .u32 (k : Nat)] w fun e w' => e = .returned (vcV (plusV x k)) ∧ Below w.heap.size w w' := by
  have hi := Lib.hid sizeVr
  have fin := fun A => Lib.hid (two_new w A 42)
  have l1 : (x.c : Int) < 4294967296 := by omega
  have hb : ∀ A, Below w.heap.size w ((w.alloc (Obj.cells A 42)).alloc (Obj.cells A 42)) := fun A => ((Below.refl _ _).alloc (Nat.le_refl _) _).alloc (by simp) _
  by_cases c : 4294967295 < x.c + k
  · have d1 : (4294967295 : Int) - (x.c : Int) < (k : Int) := by omega
    have E := Lib.hid (show (x.c : Int) + (4294967295 - (x.c : Int)) = ((4294967295 : Nat) : Int) by omega)
    have L := Lib.hid (plusV_yes x k c)
    clear c
    go_enter Try.func25, Try.ntmps25
    go_wp2
    refine bodyPost_ret (v := .agg _) (results_cell_row Try.results25 _ _ (w.heap.size + 1) 42 _ (0, 0) _ rfl (fin _).out Try.underlying42 rfl hi.out) rfl ⟨?_, hb _⟩
    rw [L.out]
    rfl
  · have d1 : ¬ (4294967295 : Int) - (x.c : Int) < (k : Int) := by omega
    have l2 : (x.c : Int) + (k : Int) < 4294967296 := by omega
    have L := Lib.hid (plusV_no x k c)
    clear c
    go_enter Try.func25, Try.ntmps25
    go_wp2
    refine bodyPost_ret (v := .agg _) (results_cell_row Try.results25 _ _ (w.heap.size + 1) 42 _ (0, 0) _ rfl (fin _).out Try.underlying42 rfl hi.out) rfl ⟨?_, hb _⟩
    rw [L.out]
    simp
end Go.Proofs.Ytojijeaofkndpaa
