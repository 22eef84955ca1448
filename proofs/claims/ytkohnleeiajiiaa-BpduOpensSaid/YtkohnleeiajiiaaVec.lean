/- Vectors: what the functions of package vector do with one or two, and the document's own answers. -/
import Derived.Test.YtkohnleeiajiiaaTell
namespace Go.Proofs.Ytkohnleeiajiiaa
open Go.RowKit

/-- A vector's numbers. -/
structure Vc where
  r : Nat
  c : Nat
  b : Nat
  p : Nat

def Vc.ok (x : Vc) : Prop := x.r < 18446744073709551616 ∧ x.c < 4294967296 ∧ x.b < 18446744073709551616 ∧ x.p < 65536

/-- .. as cells, and by value. -/
abbrev vcA (x : Vc) : Array Value := #[.int .u64 (x.r : Nat), .int .u32 (x.c : Nat), .int .u64 (x.b : Nat), .int .u16 (x.p : Nat)]
abbrev vcV (x : Vc) : Value := .agg (vcA x)
abbrev nil4 : Array Value := #[.int .u64 0, .int .u32 0, .int .u64 0, .int .u16 0]

/-- Is it better? -/
def lessV (x y : Vc) : Bool := if x.r = y.r then (if x.c = y.c then (if x.b = y.b then decide (x.p < y.p) else decide (x.b < y.b)) else decide (x.c < y.c)) else decide (x.r < y.r)
/-- One whose cost is more. -/
def plusV (x : Vc) (k : Nat) : Vc := { x with c := if 4294967295 < x.c + k then 4294967295 else x.c + k }

theorem plusV_ok {x : Vc} (h : x.ok) (k : Nat) : (plusV x k).ok := by
  obtain ⟨h1, h2, h3, h4⟩ := h
  refine ⟨h1, ?_, h3, h4⟩
  show (if 4294967295 < x.c + k then 4294967295 else x.c + k) < _
  split <;> omega

theorem size57 : (Try.prog.info? 57).map (·.size) = some 4 := by kernel_rfl
theorem size58 : (Try.prog.info? 58).map (·.size) = some 4 := by kernel_rfl
theorem size60 : (Try.prog.info? 60).map (·.size) = some 4 := by kernel_rfl
theorem vcA_one (x : Vc) : (vcA x).all (·.oneCell') = true := by simp [Value.oneCell']

set_option maxHeartbeats 1000000 in
theorem vtold_any (x : Vc) (w : World) : Calls Try.prog 20 #[vcV x] w fun e w' => e = .returned (vcV x) ∧ Below w.heap.size w w' := by
  have hi := Lib.hid size60
  have hb := ((Below.refl w.heap.size w).alloc (Nat.le_refl _) (Obj.cells (vcA x) 57)).alloc (by simp) (Obj.cells (vcA x) 60)
  have hr := Blk.new (w.alloc (Obj.cells (vcA x) 57)) (vcA x) 60
  rw [show (w.alloc (Obj.cells (vcA x) 57)).heap.size = w.heap.size + 1 by simp] at hr
  have R := Lib.hid hr
  clear hr
  go_enter Try.func20, Try.ntmps20
  go_wp2_with fail
  exact bodyPost_ret (v := vcV x) (results_cell_row Try.results20 _ _ (w.heap.size + 1) 60 (vcA x) (0, 0) _ rfl R.out Try.underlying60 rfl hi.out) rfl ⟨rfl, hb⟩

set_option maxHeartbeats 1000000 in
theorem better_any (x y : Vc) (w : World) : Calls Try.prog 21 #[vcV x, vcV y] w fun e w' => e = .returned (.bool (lessV x y)) ∧ Below w.heap.size w w' := by
  have hb := ((Below.refl w.heap.size w).alloc (Nat.le_refl _) (Obj.cells (vcA x) 60)).alloc (by simp) (Obj.cells (vcA y) 60)
  by_cases a1 : x.r = y.r
  · have e1 : ((x.r : Int) != (y.r : Int)) = false := by simp [a1]
    by_cases a2 : x.c = y.c
    · have e2 : ((x.c : Int) != (y.c : Int)) = false := by simp [a2]
      by_cases a3 : x.b = y.b
      · have e3 : ((x.b : Int) != (y.b : Int)) = false := by simp [a3]
        have L := Lib.hid (show lessV x y = decide (x.p < y.p) by unfold lessV; rw [if_pos a1, if_pos a2, if_pos a3])
        clear a1 a2 a3
        go_enter Try.func21, Try.ntmps21
        go_wp2
        go_ret
        exact ⟨ret_bool (by rw [L.out]), hb⟩
      · have e3 : ((x.b : Int) != (y.b : Int)) = true := by simp; omega
        have L := Lib.hid (show lessV x y = decide (x.b < y.b) by unfold lessV; rw [if_pos a1, if_pos a2, if_neg a3])
        clear a1 a2 a3
        go_enter Try.func21, Try.ntmps21
        go_wp2
        go_ret
        exact ⟨ret_bool (by rw [L.out]), hb⟩
    · have e2 : ((x.c : Int) != (y.c : Int)) = true := by simp; omega
      have L := Lib.hid (show lessV x y = decide (x.c < y.c) by unfold lessV; rw [if_pos a1, if_neg a2])
      clear a1 a2
      go_enter Try.func21, Try.ntmps21
      go_wp2
      go_ret
      exact ⟨ret_bool (by rw [L.out]), hb⟩
  · have e1 : ((x.r : Int) != (y.r : Int)) = true := by simp; omega
    have L := Lib.hid (show lessV x y = decide (x.r < y.r) by unfold lessV; rw [if_neg a1])
    clear a1
    go_enter Try.func21, Try.ntmps21
    go_wp2
    go_ret
    exact ⟨ret_bool (by rw [L.out]), hb⟩

set_option maxHeartbeats 1000000 in
theorem rbetter_any (x y : Vc) (w : World) : Calls Try.prog 22 #[vcV x, vcV y] w fun e w' => e = .returned (.bool (lessV x y)) ∧ Below w.heap.size w w' := by
  have hb := ((Below.refl w.heap.size w).alloc (Nat.le_refl _) (Obj.cells (vcA x) 58)).alloc (by simp) (Obj.cells (vcA y) 58)
  by_cases a1 : x.r = y.r
  · have e1 : ((x.r : Int) != (y.r : Int)) = false := by simp [a1]
    by_cases a2 : x.c = y.c
    · have e2 : ((x.c : Int) != (y.c : Int)) = false := by simp [a2]
      by_cases a3 : x.b = y.b
      · have e3 : ((x.b : Int) != (y.b : Int)) = false := by simp [a3]
        have L := Lib.hid (show lessV x y = decide (x.p < y.p) by unfold lessV; rw [if_pos a1, if_pos a2, if_pos a3])
        clear a1 a2 a3
        go_enter Try.func22, Try.ntmps22
        go_wp2
        go_ret
        exact ⟨ret_bool (by rw [L.out]), hb⟩
      · have e3 : ((x.b : Int) != (y.b : Int)) = true := by simp; omega
        have L := Lib.hid (show lessV x y = decide (x.b < y.b) by unfold lessV; rw [if_pos a1, if_pos a2, if_neg a3])
        clear a1 a2 a3
        go_enter Try.func22, Try.ntmps22
        go_wp2
        go_ret
        exact ⟨ret_bool (by rw [L.out]), hb⟩
    · have e2 : ((x.c : Int) != (y.c : Int)) = true := by simp; omega
      have L := Lib.hid (show lessV x y = decide (x.c < y.c) by unfold lessV; rw [if_pos a1, if_neg a2])
      clear a1 a2
      go_enter Try.func22, Try.ntmps22
      go_wp2
      go_ret
      exact ⟨ret_bool (by rw [L.out]), hb⟩
  · have e1 : ((x.r : Int) != (y.r : Int)) = true := by simp; omega
    have L := Lib.hid (show lessV x y = decide (x.r < y.r) by unfold lessV; rw [if_neg a1])
    clear a1
    go_enter Try.func22, Try.ntmps22
    go_wp2
    go_ret
    exact ⟨ret_bool (by rw [L.out]), hb⟩

theorem plusV_yes (x : Vc) (k : Nat) (h : 4294967295 < x.c + k) : plusV x k = { x with c := 4294967295 } := by unfold plusV; rw [if_pos h]
theorem plusV_no (x : Vc) (k : Nat) (h : ¬ 4294967295 < x.c + k) : plusV x k = { x with c := x.c + k } := by unfold plusV; rw [if_neg h]

theorem two_new (w : World) (A : Array Value) (t : TypeId) : Blk ((w.alloc (Obj.cells A t)).alloc (Obj.cells A t)) (w.heap.size + 1) A t := by
  have := Blk.new (w.alloc (Obj.cells A t)) A t
  rwa [show (w.alloc (Obj.cells A t)).heap.size = w.heap.size + 1 by simp] at this

set_option maxHeartbeats 1000000 in
theorem plus_any (x : Vc) (k : Nat) (w : World) (hx : x.c < 4294967296) (hk : k < 4294967296) : Calls Try.prog 23 #[vcV x, .int .u32 (k : Nat)] w fun e w' => e = .returned (vcV (plusV x k)) ∧ Below w.heap.size w w' := by
  have hi := Lib.hid size60
  have fin := fun A => Lib.hid (two_new w A 60)
  have l1 : (x.c : Int) < 4294967296 := by omega
  have hb : ∀ A, Below w.heap.size w ((w.alloc (Obj.cells A 60)).alloc (Obj.cells A 60)) := fun A => ((Below.refl _ _).alloc (Nat.le_refl _) _).alloc (by simp) _
  by_cases c : 4294967295 < x.c + k
  · have d1 : (4294967295 : Int) - (x.c : Int) < (k : Int) := by omega
    have E := Lib.hid (show (x.c : Int) + (4294967295 - (x.c : Int)) = ((4294967295 : Nat) : Int) by omega)
    have L := Lib.hid (plusV_yes x k c)
    clear c
    go_enter Try.func23, Try.ntmps23
    go_wp2
    refine bodyPost_ret (v := .agg _) (results_cell_row Try.results23 _ _ (w.heap.size + 1) 60 _ (0, 0) _ rfl (fin _).out Try.underlying60 rfl hi.out) rfl ⟨?_, hb _⟩
    rw [L.out, E.out]
  · have d1 : ¬ (4294967295 : Int) - (x.c : Int) < (k : Int) := by omega
    have l2 : (x.c : Int) + (k : Int) < 4294967296 := by omega
    have L := Lib.hid (plusV_no x k c)
    clear c
    go_enter Try.func23, Try.ntmps23
    go_wp2
    refine bodyPost_ret (v := .agg _) (results_cell_row Try.results23 _ _ (w.heap.size + 1) 60 _ (0, 0) _ rfl (fin _).out Try.underlying60 rfl hi.out) rfl ⟨?_, hb _⟩
    rw [L.out]
    simp

set_option maxHeartbeats 1000000 in
theorem rplus_any (x : Vc) (k : Nat) (w : World) (hx : x.c < 4294967296) (hk : k < 4294967296) : Calls Try.prog 24 #[vcV x, .int .u32 (k : Nat)] w fun e w' => e = .returned (vcV (plusV x k)) ∧ Below w.heap.size w w' := by
  have hi := Lib.hid size58
  have fin := fun A => Lib.hid (two_new w A 58)
  have l1 : (x.c : Int) < 4294967296 := by omega
  have hb : ∀ A, Below w.heap.size w ((w.alloc (Obj.cells A 58)).alloc (Obj.cells A 58)) := fun A => ((Below.refl _ _).alloc (Nat.le_refl _) _).alloc (by simp) _
  by_cases c : 4294967295 < x.c + k
  · have d1 : (4294967295 : Int) - (x.c : Int) < (k : Int) := by omega
    have E := Lib.hid (show (x.c : Int) + (4294967295 - (x.c : Int)) = ((4294967295 : Nat) : Int) by omega)
    have L := Lib.hid (plusV_yes x k c)
    clear c
    go_enter Try.func24, Try.ntmps24
    go_wp2
    refine bodyPost_ret (v := .agg _) (results_cell_row Try.results24 _ _ (w.heap.size + 1) 58 _ (0, 0) _ rfl (fin _).out Try.underlying58 rfl hi.out) rfl ⟨?_, hb _⟩
    rw [L.out]
    rfl
  · have d1 : ¬ (4294967295 : Int) - (x.c : Int) < (k : Int) := by omega
    have l2 : (x.c : Int) + (k : Int) < 4294967296 := by omega
    have L := Lib.hid (plusV_no x k c)
    clear c
    go_enter Try.func24, Try.ntmps24
    go_wp2
    refine bodyPost_ret (v := .agg _) (results_cell_row Try.results24 _ _ (w.heap.size + 1) 58 _ (0, 0) _ rfl (fin _).out Try.underlying58 rfl hi.out) rfl ⟨?_, hb _⟩
    rw [L.out]
    simp
end Go.Proofs.Ytkohnleeiajiiaa
