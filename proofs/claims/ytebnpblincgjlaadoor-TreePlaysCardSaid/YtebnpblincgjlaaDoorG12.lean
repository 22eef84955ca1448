import Derived.Test.YtebnpblincgjlaaDoorG9
import Derived.Test.YtebnpblincgjlaaDoorG11
import Derived.Test.YtebnpblincgjlaaDoorG1
set_option linter.unusedSimpArgs false
set_option linter.unusedVariables false
section
/- Layer 17, by the evaluator. -/
namespace Go.Proofs.YtebnpblincgjlaaDoor
open Go.RowKit
open Ev
set_option maxRecDepth 100000
namespace Ev
abbrev Yes {P : Program} : Ora P := .b true true rfl
abbrev No {P : Program} : Ora P := .b false false rfl
theorem nb {a v : Bool} (h : a = v) : (!a) = !v := by rw [h]
theorem q_eql {P : Program} {ty : TypeId} {a b : Array Value} {v : Bool} (h : ∀ w, (Op.equalIn 10000 ty (.agg a) (.agg b)).run P w = .ok v w) (w : World) : (binOp .eql ty (.agg a) (.agg b)).run P w = .ok (.bool v) w := by
  have h2 : ∀ w, (Op.equalIn Op.maxDepth ty (.agg a) (.agg b)).run P w = .ok v w := h
  simp [binOp, Op.equal, h2]
theorem q_neq {P : Program} {ty : TypeId} {a b : Array Value} {v : Bool} (h : ∀ w, (Op.equalIn 10000 ty (.agg a) (.agg b)).run P w = .ok v w) (w : World) : (binOp .neq ty (.agg a) (.agg b)).run P w = .ok (.bool !v) w := by
  have h2 : ∀ w, (Op.equalIn Op.maxDepth ty (.agg a) (.agg b)).run P w = .ok v w := h
  simp [binOp, Op.equal, h2]
end Ev
theorem edge_any (x : Po) (w : World) : Calls Tryd.prog 67 #[poV x] w fun e w' => e = .returned (.bool (edgeB x)) ∧ Below w.heap.size w w' := by
  unfold edgeB
  cases h : x.p5 <;> exact ev_call [.b _ _ h] (fun _ _ => by kernel_rfl) w
theorem opened_any (x y : Po) (w : World) : Calls Tryd.prog 62 #[poV x, poV y] w fun e w' => e = .returned (.bool (openedB x y)) ∧ Below w.heap.size w w' := by
  unfold openedB
  cases h : decide (y.p11 = 2) <;> exact ev_call [.b _ _ h] (fun _ _ => by kernel_rfl) w
theorem rest_any (x : Po) (s : Int) (w : World) : Calls Tryd.prog 72 #[poV x, .int .i64 s] w fun e w' => e = .returned (poV (restP x s)) ∧ Below w.heap.size w w' :=
  ev_call [] (fun _ _ => by kernel_rfl) w
theorem edge_is (x : Po) (b : Bool) (h : edgeB x = b) (w : World) : Calls Tryd.prog 67 #[poV x] w fun e w' => e = .returned (.bool b) ∧ Below w.heap.size w w' := h ▸ edge_any x w
theorem opened_is (x y : Po) (b : Bool) (h : openedB x y = b) (w : World) : Calls Tryd.prog 62 #[poV x, poV y] w fun e w' => e = .returned (.bool b) ∧ Below w.heap.size w w' := h ▸ opened_any x y w
theorem rest_is (x : Po) (s : Int) (q : Po) (h : restP x s = q) (w : World) : Calls Tryd.prog 72 #[poV x, .int .i64 s] w fun e w' => e = .returned (poV q) ∧ Below w.heap.size w w' := h ▸ rest_any x s w
theorem designate_any (x : Po) (u v : Vc) (c : Cf) (w : World) : Calls Tryd.prog 73 #[poV (poU x u), vcV v, cfV c] w fun e w' => e = .returned (.tuple #[poV (desP x u v c.p3), .bool (desB x u v)]) ∧ Below w.heap.size w w' := by
  by_cases c1 : decide (x.p10 = 4) = true ∧ decide (x.p12 = 1) = true
  · obtain ⟨h1, h2⟩ := c1
    have eb : desB x u v = !eqV u v := by unfold desB; rw [h1, h2]; rfl
    rcases Bool.eq_false_or_eq_true (eqV u v) with h3 | h3
    · have e : desP x u v c.p3 = { poU x u with p10 := 4, p11 := bif edgeB x then 2 else x.p11, p19 := bif edgeB x then 0 else x.p19 } := by
        unfold desP desV poU; rw [eb, h3, h1]; rfl
      rw [e, eb]
      cases h4 : edgeB x <;> exact ev_call [.b (!_) _ (nb h1), .b (!_) _ (nb h2), .q _ _ _ _ _ (q_neq (equal_vc u v)), .b (!_) _ (nb h3), .b (!_) _ (nb h1), .c _ _ _ (edge_any { poU x u with p10 := 4 }), .b _ _ h4] (fun _ _ => by kernel_rfl) w
    · have e : desP x u v c.p3 = { poU x v with p9 := false, p10 := 4, p12 := 1, p17 := 0, p18 := 0, p11 := bif edgeB x then 2 else x.p11, p19 := bif edgeB x then 0 else x.p19 } := by
        unfold desP desV poU; rw [eb, h3, h1]; rfl
      rw [e, eb]
      cases h4 : edgeB x <;> exact ev_call [.b (!_) _ (nb h1), .b (!_) _ (nb h2), .q _ _ _ _ _ (q_neq (equal_vc u v)), .b (!_) _ (nb h3), .b (!_) _ (nb h1), .c _ _ _ (edge_any { poU x v with p9 := false, p10 := 4, p12 := 1, p17 := 0, p18 := 0 }), .b _ _ h4] (fun _ _ => by kernel_rfl) w
  unfold desP desV desB
  cases h1 : decide (x.p10 = 4)
  · cases h4 : edgeB x <;> exact ev_call [.b (!_) _ (nb h1), Yes, Yes, .b (!_) _ (nb h1), .c _ _ _ (edge_any { poU x v with p9 := false, p10 := 4, p12 := 1, p17 := 0, p18 := 0, p11 := 0, p19 := c.p3 }), .b _ _ h4] (fun _ _ => by kernel_rfl) w
  · cases h2 : decide (x.p12 = 1)
    · cases h4 : edgeB x <;> exact ev_call [.b (!_) _ (nb h1), .b (!_) _ (nb h2), Yes, .b (!_) _ (nb h1), .c _ _ _ (edge_any { poU x v with p9 := false, p10 := 4, p12 := 1, p17 := 0, p18 := 0 }), .b _ _ h4] (fun _ _ => by kernel_rfl) w
    · exact (c1 ⟨h1, h2⟩).elim
theorem assume_any (x : Po) (u : Vc) (r : Int) (v : Vc) (c : Cf) (w : World) : Calls Tryd.prog 56 #[poV (poU x u), .int .i64 r, vcV v, cfV c] w fun e w' => e = .returned (.tuple #[poV (assumeP x u r v c.p3), .bool (assumeN x u r v), .bool (openedB x (assumeP x u r v c.p3))]) ∧ Below w.heap.size w w' := by
  by_cases e1 : r = 1
  · subst e1
    exact ev_call [Yes, Yes, .c _ _ _ (rest_any (roleP x u 1) 0), .c _ _ _ (opened_any (poU x u) (restP (roleP x u 1) 0))] (fun _ _ => by kernel_rfl) w
  by_cases e2 : r = 2
  · subst e2
    exact ev_call [No, Yes, .c _ _ _ (rest_any (roleP x u 2) 0), .c _ _ _ (opened_any (poU x u) (restP (roleP x u 2) 0))] (fun _ _ => by kernel_rfl) w
  by_cases e3 : r = 3
  · subst e3
    by_cases h : x.p10 = 3
    · have d := decide_eq_true h
      have e : assumeP x u 3 v c.p3 = roleP x u 3 := by simp [assumeP, h]
      rw [e]
      exact ev_call [No, No, Yes, .b (!_) _ (nb d), .c _ _ _ (opened_any (poU x u) (roleP x u 3))] (fun _ _ => by kernel_rfl) w
    · have d := decide_eq_false h
      have e : assumeP x u 3 v c.p3 = restP (roleP x u 3) 2 := by simp [assumeP, h]
      rw [e]
      exact ev_call [No, No, Yes, .b (!_) _ (nb d), .c _ _ _ (rest_any (roleP x u 3) 2), .c _ _ _ (opened_any (poU x u) (restP (roleP x u 3) 2))] (fun _ _ => by kernel_rfl) w
  by_cases e4 : r = 4
  · subst e4
    exact ev_call [No, No, No, Yes, .c _ _ _ (designate_any x u v c), .c _ _ _ (opened_any (poU x u) (desP x u v c.p3))] (fun _ _ => by kernel_rfl) w
  have e : assumeP x u r v c.p3 = roleP x u r := by simp [assumeP, e1, e2, e3, e4]
  have en : assumeN x u r v = false := by simp [assumeN, e4]
  rw [e, en]
  exact ev_call [.b _ _ (decide_eq_false e1), .b _ _ (decide_eq_false e2), .b _ _ (decide_eq_false e3), .b _ _ (decide_eq_false e4), .c _ _ _ (opened_any (poU x u) (roleP x u r))] (fun _ _ => by kernel_rfl) w
theorem step_any (x : Po) (c : Cf) (w : World) : Calls Tryd.prog 38 #[poV x, cfV c] w fun e w' => e = .returned (.tuple #[poV (stepP x c.p3), .bool (openedB x (stepP x c.p3))]) ∧ Below w.heap.size w w' := by
  by_cases h1 : x.p10 = 4
  · have d1 := decide_eq_true h1
    by_cases h2 : x.p11 = 2
    · have d2 := decide_eq_true h2
      have e : stepP x c.p3 = x := by simp [stepP, h1, h2]
      have eo : openedB x x = false := by simp [openedB]
      rw [e, eo]
      exact ev_call [.b (!_) _ (nb d1), .b _ _ d2] (fun _ _ => by kernel_rfl) w
    have d2 := decide_eq_false h2
    by_cases h3 : 1 < x.p19
    · have d3 := decide_eq_true h3
      have e : stepP x c.p3 = { x with p19 := IntKind.i64.wrap (x.p19 - 1) } := by simp [stepP, h1, h2, h3]
      have eo : openedB x { x with p19 := IntKind.i64.wrap (x.p19 - 1) } = false := by simp [openedB]
      rw [e, eo]
      exact ev_call [.b (!_) _ (nb d1), .b _ _ d2, .b _ _ d3] (fun _ _ => by kernel_rfl) w
    have d3 := decide_eq_false h3
    by_cases h4 : x.p11 = 0
    · have d4 := decide_eq_true h4
      have e : stepP x c.p3 = { x with p11 := 1, p19 := c.p3 } := by simp [stepP, h1, h2, h3, h4]
      rw [e]
      exact ev_call [.b (!_) _ (nb d1), .b _ _ d2, .b _ _ d3, .b _ _ d4, .c _ _ _ (opened_any x { x with p11 := 1, p19 := c.p3 })] (fun _ _ => by kernel_rfl) w
    have d4 := decide_eq_false h4
    by_cases h5 : x.p11 = 1
    · have d5 := decide_eq_true h5
      have e : stepP x c.p3 = { x with p11 := 2, p19 := 0 } := by simp [stepP, h1, h2, h3, h4, h5]
      rw [e]
      exact ev_call [.b (!_) _ (nb d1), .b _ _ d2, .b _ _ d3, .b _ _ d4, .b _ _ d5, .c _ _ _ (opened_any x { x with p11 := 2, p19 := 0 })] (fun _ _ => by kernel_rfl) w
    have d5 := decide_eq_false h5
    have e : stepP x c.p3 = { x with p19 := IntKind.i64.wrap (x.p19 - 1) } := by simp [stepP, h1, h2, h3, h4, h5]
    rw [e]
    exact ev_call [.b (!_) _ (nb d1), .b _ _ d2, .b _ _ d3, .b _ _ d4, .b _ _ d5, .c _ _ _ (opened_any x { x with p19 := IntKind.i64.wrap (x.p19 - 1) })] (fun _ _ => by kernel_rfl) w
  · have d1 := decide_eq_false h1
    have e : stepP x c.p3 = x := by simp [stepP, h1]
    have eo : openedB x x = false := by simp [openedB]
    rw [e, eo]
    exact ev_call [.b (!_) _ (nb d1), Yes] (fun _ _ => by kernel_rfl) w
theorem agree_any (x : Po) (w : World) : Calls Tryd.prog 46 #[poV x] w fun e w' => e = .returned (.tuple #[poV (agreeP x), .bool (openedB x (agreeP x))]) ∧ Below w.heap.size w w' := by
  by_cases h1 : x.p10 = 4
  · have e : agreeP x = { x with p9 := true, p11 := 2, p19 := 0 } := by simp [agreeP, h1]
    rw [e]
    exact ev_call [.b (!_) _ (nb (decide_eq_true h1)), .c _ _ _ (opened_any x { x with p9 := true, p11 := 2, p19 := 0 })] (fun _ _ => by kernel_rfl) w
  · have e : agreeP x = x := by simp [agreeP, h1]
    have eo : openedB x x = false := by simp [openedB]
    rw [e, eo]
    exact ev_call [.b (!_) _ (nb (decide_eq_false h1))] (fun _ _ => by kernel_rfl) w
theorem block_any (x : Po) (c : Cf) (w : World) : Calls Tryd.prog 48 #[poV x, cfV c] w fun e w' => e = .returned (poV (blockP x c.p3)) ∧ Below w.heap.size w w' := by
  by_cases h1 : x.p10 = 4
  · have d1 := decide_eq_true h1
    cases h2 : edgeB x
    · cases h3 : x.p9
      · by_cases h4 : x.p11 = 0
        · have e : blockP x c.p3 = x := by simp [blockP, h4]
          rw [e]
          exact ev_call [.b _ _ d1, .c _ _ _ (edge_any x), .b (!_) _ (nb h2), .b (!_) _ (nb h3), .b (!_) _ (nb (decide_eq_true h4))] (fun _ _ => by kernel_rfl) w
        · have e : blockP x c.p3 = { x with p11 := 0, p19 := c.p3 } := by simp [blockP, h1, h2, h3, h4]
          rw [e]
          exact ev_call [.b _ _ d1, .c _ _ _ (edge_any x), .b (!_) _ (nb h2), .b (!_) _ (nb h3), .b (!_) _ (nb (decide_eq_false h4))] (fun _ _ => by kernel_rfl) w
      · have e : blockP x c.p3 = x := by simp [blockP, h3]
        rw [e]
        exact ev_call [.b _ _ d1, .c _ _ _ (edge_any x), .b (!_) _ (nb h2), .b (!_) _ (nb h3), No] (fun _ _ => by kernel_rfl) w
    · have e : blockP x c.p3 = x := by simp [blockP, h2]
      rw [e]
      exact ev_call [.b _ _ d1, .c _ _ _ (edge_any x), .b (!_) _ (nb h2), No, No] (fun _ _ => by kernel_rfl) w
  · have e : blockP x c.p3 = x := by simp [blockP, h1]
    rw [e]
    exact ev_call [.b _ _ (decide_eq_false h1), No, No, No] (fun _ _ => by kernel_rfl) w
end Go.Proofs.YtebnpblincgjlaaDoor
end
namespace Go.Proofs.YtebnpblincgjlaaDoor
section
/- Layers 6 and 16, by the evaluator: vectors; what is heard, and how long. -/
open Go.RowKit
open Ev
set_option maxRecDepth 100000
theorem cast_eq {a b : Nat} {v : Bool} (h : decide (a = b) = v) : decide ((a : Int) = (b : Int)) = v := (decide_eq_decide.2 (by omega)).trans h
theorem cast_lt (a b : Nat) : decide ((a : Int) < (b : Int)) = decide (a < b) := by simp
theorem ev_better (x y : Vc) (w : World) : Calls Tryd.prog 70 #[vcV x, vcV y] w fun e w' => e = .returned (.bool (lessV x y)) ∧ Below w.heap.size w w' := by
  by_cases h1 : x.r = y.r
  · have d1 := cast_eq (decide_eq_true h1)
    by_cases h2 : x.c = y.c
    · have d2 := cast_eq (decide_eq_true h2)
      by_cases h3 : x.b = y.b
      · have d3 := cast_eq (decide_eq_true h3)
        rw [show lessV x y = decide ((x.p : Int) < (y.p : Int)) by simp [lessV, h1, h2, h3]]
        exact ev_call [.b (!_) _ (nb d1), .b (!_) _ (nb d2), .b (!_) _ (nb d3)] (fun _ _ => by kernel_rfl) w
      · have d3 := cast_eq (decide_eq_false h3)
        rw [show lessV x y = decide ((x.b : Int) < (y.b : Int)) by simp [lessV, h1, h2, h3]]
        exact ev_call [.b (!_) _ (nb d1), .b (!_) _ (nb d2), .b (!_) _ (nb d3)] (fun _ _ => by kernel_rfl) w
    · have d2 := cast_eq (decide_eq_false h2)
      rw [show lessV x y = decide ((x.c : Int) < (y.c : Int)) by simp [lessV, h1, h2]]
      exact ev_call [.b (!_) _ (nb d1), .b (!_) _ (nb d2)] (fun _ _ => by kernel_rfl) w
  · have d1 := cast_eq (decide_eq_false h1)
    rw [show lessV x y = decide ((x.r : Int) < (y.r : Int)) by simp [lessV, h1]]
    exact ev_call [.b (!_) _ (nb d1)] (fun _ _ => by kernel_rfl) w
theorem u32_sub {a : Nat} (h : a < 4294967296) : Value.int .u32 (IntKind.u32.wrap (4294967295 - (a : Int))) = .int .u32 (4294967295 - (a : Int)) := by
  rw [show IntKind.u32.wrap (4294967295 - (a : Int)) = 4294967295 - (a : Int) by simp [IntKind.wrap, IntKind.bits, IntKind.signed]; omega]
theorem ev_plus (x : Vc) (k : Nat) (w : World) (hx : x.c < 4294967296) (hk : k < 4294967296) : Calls Tryd.prog 81 #[vcV x, .int .u32 (k : Nat)] w fun e w' => e = .returned (vcV (plusV x k)) ∧ Below w.heap.size w w' := by
  by_cases h : 4294967295 < x.c + k
  · rw [plusV_yes x k h]
    have d : decide (4294967295 - (x.c : Int) < (k : Int)) = true := by simp; omega
    have e : Value.int .u32 (IntKind.u32.wrap ((x.c : Int) + (4294967295 - (x.c : Int)))) = .int .u32 ((4294967295 : Nat) : Int) := by
      rw [show (x.c : Int) + (4294967295 - (x.c : Int)) = 4294967295 by omega]; rfl
    exact ev_call [.r _ _ (u32_sub hx), .b _ _ d, .r _ _ (u32_sub hx), .r _ _ e] (fun _ _ => by kernel_rfl) w
  · rw [plusV_no x k h]
    have d : decide (4294967295 - (x.c : Int) < (k : Int)) = false := by simp; omega
    have e : Value.int .u32 (IntKind.u32.wrap ((x.c : Int) + (k : Int))) = .int .u32 ((x.c + k : Nat) : Int) := by
      rw [show IntKind.u32.wrap ((x.c : Int) + (k : Int)) = ((x.c + k : Nat) : Int) by simp [IntKind.wrap, IntKind.bits, IntKind.signed]; omega]
    exact ev_call [.r _ _ (u32_sub hx), .b _ _ d, .r _ _ e] (fun _ _ => by kernel_rfl) w
theorem anew_any (x : Po) (u v : Vc) (w : World) : Calls Tryd.prog 80 #[poV (poU x u), vcV v] w fun e w' => e = .returned (.bool (anewB x u v)) ∧ Below w.heap.size w w' := by
  cases h1 : decide (x.p12 = 2)
  · rw [show anewB x u v = false by simp [anewB, h1]]
    exact ev_call [.b _ _ h1, No] (fun _ _ => by kernel_rfl) w
  · by_cases h2 : v.b = u.b
    · rw [show anewB x u v = decide ((v.p : Int) = (u.p : Int)) by rw [cast_eq rfl]; simp [anewB, h1, h2]]
      exact ev_call [.b _ _ h1, .b _ _ (cast_eq (decide_eq_true h2))] (fun _ _ => by kernel_rfl) w
    · rw [show anewB x u v = false by simp [anewB, h1, h2]]
      exact ev_call [.b _ _ h1, .b _ _ (cast_eq (decide_eq_false h2))] (fun _ _ => by kernel_rfl) w
theorem takes_any (x : Po) (u v : Vc) (w : World) : Calls Tryd.prog 66 #[poV (poU x u), vcV v] w fun e w' => e = .returned (.bool (takesB x u v)) ∧ Below w.heap.size w w' := by
  unfold takesB
  cases h1 : anewB x u v
  · cases h2 : lessV v u
    · exact ev_call [.c _ _ _ (anew_any x u v), .b _ _ h1, .c _ _ _ (ev_better v u), .b _ _ h2] (fun _ _ => by kernel_rfl) w
    · exact ev_call [.c _ _ _ (anew_any x u v), .b _ _ h1, .c _ _ _ (ev_better v u), .b _ _ h2] (fun _ _ => by kernel_rfl) w
  · exact ev_call [.c _ _ _ (anew_any x u v), .b _ _ h1, Yes] (fun _ _ => by kernel_rfl) w
def hearT (x : Po) (v : Vc) (age : Int) (c : Cf) : Po := { x with p12 := 2, p13 := (v.r : Nat), p14 := (v.c : Nat), p15 := (v.b : Nat), p16 := (v.p : Nat), p17 := age, p18 := (IntKind.i64.wrap (3 * c.p2)) }
def hearOld (x : Po) (age : Int) (c : Cf) : Bool := !onP x || (decide (age < 0) || decide (c.p1 ≤ age))
def hearP (x : Po) (u v : Vc) (age : Int) (c : Cf) : Po := if hearOld x age c then poU x u else if takesB x u v then hearT x v age c else poU x u
def hearN (x : Po) (u v : Vc) (age : Int) (c : Cf) : Int := if hearOld x age c then 0 else if takesB x u v then (if decide (x.p12 = 2) && eqV u v then 2 else 3) else 1
theorem hear_any (x : Po) (u v : Vc) (age : Int) (c : Cf) (w : World) : Calls Tryd.prog 47 #[poV (poU x u), vcV v, .int .i64 age, cfV c] w fun e w' => e = .returned (.tuple #[poV (hearP x u v age c), .int .i64 (hearN x u v age c)]) ∧ Below w.heap.size w w' := by
  unfold hearP hearN hearOld
  have on := on_any (poU x u)
  cases h1 : onP x
  · exact ev_call [.c _ _ _ on, .b (!_) _ (nb h1), Yes, Yes] (fun _ _ => by kernel_rfl) w
  cases h2 : decide (age < 0)
  · cases h3 : decide (c.p1 ≤ age)
    · cases h4 : takesB x u v
      · exact ev_call [.c _ _ _ on, .b (!_) _ (nb h1), .b _ _ h2, .b _ _ h3, .c _ _ _ (takes_any x u v), .b (!_) _ (nb h4)] (fun _ _ => by kernel_rfl) w
      · cases h5 : decide (x.p12 = 2)
        · exact ev_call [.c _ _ _ on, .b (!_) _ (nb h1), .b _ _ h2, .b _ _ h3, .c _ _ _ (takes_any x u v), .b (!_) _ (nb h4), .b _ _ h5, No, .k] (fun _ _ => by kernel_rfl) w
        · cases h6 : eqV u v <;> exact ev_call [.c _ _ _ on, .b (!_) _ (nb h1), .b _ _ h2, .b _ _ h3, .c _ _ _ (takes_any x u v), .b (!_) _ (nb h4), .b _ _ h5, .q _ _ _ _ _ (q_eql (equal_vc u v)), .b _ _ h6, .k] (fun _ _ => by kernel_rfl) w
    · exact ev_call [.c _ _ _ on, .b (!_) _ (nb h1), .b _ _ h2, .b _ _ h3] (fun _ _ => by kernel_rfl) w
  · exact ev_call [.c _ _ _ on, .b (!_) _ (nb h1), .b _ _ h2, Yes] (fun _ _ => by kernel_rfl) w
def fadeP (x : Po) : Po := if x.p12 = 2 then (if 1 < x.p18 then { x with p18 := IntKind.i64.wrap (x.p18 - 1) } else { x with p12 := 0, p13 := 0, p14 := 0, p15 := 0, p16 := 0, p17 := 0, p18 := 0 }) else x
def fadeB (x : Po) : Bool := decide (x.p12 = 2) && !decide (1 < x.p18)
theorem fade_any (x : Po) (w : World) : Calls Tryd.prog 37 #[poV x] w fun e w' => e = .returned (.tuple #[poV (fadeP x), .bool (fadeB x)]) ∧ Below w.heap.size w w' := by
  unfold fadeP fadeB
  by_cases h1 : x.p12 = 2
  · have d1 := decide_eq_true h1
    rw [if_pos h1, d1]
    by_cases h2 : 1 < x.p18
    · have d2 := decide_eq_true h2
      rw [if_pos h2, d2]
      exact ev_call [.b (!_) _ (nb d1), .b _ _ d2] (fun _ _ => by kernel_rfl) w
    · have d2 := decide_eq_false h2
      rw [if_neg h2, d2]
      exact ev_call [.b (!_) _ (nb d1), .b _ _ d2] (fun _ _ => by kernel_rfl) w
  · have d1 := decide_eq_false h1
    rw [if_neg h1, d1]
    exact ev_call [.b (!_) _ (nb d1)] (fun _ _ => by kernel_rfl) w
end
end Go.Proofs.YtebnpblincgjlaaDoor
section
/- What is told of functions that make things which are owned. -/
namespace Go.Proofs.YtebnpblincgjlaaDoor.Ev
open Go.RowKit

/-- A function: what it answers, and what becomes of what is owned. -/
def Fun (P : Program) (f : FuncId) (args : List Value) (A : Bds) (Y : Type) (v : Y → Value) (A' : Y → Bds) : Prop :=
  ∀ w0 (F : Fm) (R : Bd) w, Kf w0 F ((sepL A).sep R) w → Calls P f args.toArray w fun e w' => ∃ y, e = .returned (v y) ∧ Kf w0 F ((sepL (A' y)).sep R) w'
section
variable {P : Program} {f : FuncId} {args : List Value} {A : Bds} {Y : Type} {v : Y → Value} {A' : Y → Bds}
def funG (Y : Type) (v : Y → Value) (A' : Y → Bds) (R : Bd) : Goal := fun u m A => ∃ y, u = v y ∧ m = [] ∧ A = A' y ++ [R]
def finF (Y : Type) (v : Y → Value) (A' : Y → Bds) (R : Bd) (y : Y) : Ora P := .fin (funG Y v A' R) (v y) [] (A' y ++ [R]) ⟨y, rfl, rfl, rfl⟩
theorem ev_fun (r : Bd → (Y → Ora P) → List (Ora P)) (h : ∀ R β w, (evFn P 0 f (args.map .v) [] (A ++ [R]) (r R (finF Y v A' R)) (fun rs => finK P 0 rs (funG Y v A' R)) β w).1 = (evFn P 0 f (args.map .v) [] (A ++ [R]) (r R (finF Y v A' R)) (fun rs => finK P 0 rs (funG Y v A' R)) β w).2) : Fun P f args A Y v A' := by
  intro w0 F R w K
  have q := ev_fn (P := P) (q := 0) (f := f) (args.map .v) [] (A ++ [R]) (funG Y v A' R) (r R _) (h R) (Nat.le_refl _) w0 F [] w rfl (Kv.start (sep_app K))
  have ea : ((args.map SV.v).map (SV.den [])).toArray = args.toArray := by
    rw [List.map_map]
    have : (SV.den []) ∘ SV.v = id := by funext x; rfl
    rw [this, List.map_id]
  rw [← ea]
  refine q.mono fun e w' ⟨u, m', A2, β', e1, ⟨y, e2, e3, e4⟩, ht, hl, K2⟩ => ⟨y, by rw [e1, e2], ?_⟩
  subst e3 e4
  exact app_sep (Kv.stop K2)
/-- A call of such a function. -/
def oF (h : Fun P f args A Y v A') (y0 : Y) (p : Nat) (rest : Y → List (Ora P)) : Ora P :=
  .e Y y0 (.c f (args.map .v)) [] p A A' v (fun w0 F R β w _ K => by
    have ea : ((args.map SV.v).map (SV.den β)).toArray = args.toArray := by
      rw [List.map_map]
      have : (SV.den β) ∘ SV.v = id := by funext x; rfl
      rw [this, List.map_id]
    show Calls P f _ w _
    rw [ea]
    exact (h w0 F R w K).mono fun e w' ⟨y, e1, e2⟩ => ⟨v y, e1, y, rfl, e2⟩) rest
theorem LP_own {q : Nat} {body : Code} {I : Type} {S : I → St} {μ : I → Nat} {Y : Type} {E : Exit} {S' : Y → St} {i : I} {α : Type} {e : TypeId} {size : Nat} {enc : α → List Value} {a : Option Addr} {n m k : Nat} {l : List α} (p : Nat) (hp : (S i).A[p]? = some (bdO e size enc (.slice a n m) l)) (hk : k < l.length)
    (h2 : (∃ g, a = some ⟨g, 0, none⟩) → LP P q body S μ E S' i) : LP P q body S μ E S' i :=
  LP_use (fun w hw => own_ptr (w := w) (e := e) (size := size) (enc := enc) (n := n) (m := m) ((sepL_p.1 hw).1 _ (List.mem_of_getElem? hp)) hk) h2
end
end Go.Proofs.YtebnpblincgjlaaDoor.Ev
end
namespace Go.Proofs.YtebnpblincgjlaaDoor
section
open Go.RowKit
attribute [local irreducible] wpQuiet wpList
structure Rp where
 on : Bool
 hd : Bool
 v : Vc
 c : Nat
 i : Nat
def Rp.ok (x : Rp) : Prop := x.v.ok ∧ x.c < 4294967296 ∧ x.i < 65536
def rpA (x : Rp) : Array Value := #[.bool x.on, .bool x.hd, .int .u64 (x.v.r : Nat), .int .u32 (x.v.c : Nat), .int .u64 (x.v.b : Nat), .int .u16 (x.v.p : Nat), .int .u32 (x.c : Nat), .int .u16 (x.i : Nat)]
def rpC (x : Rp) : List Value := (rpA x).toList
abbrev nil8 : Array Value := #[.bool false, .bool false, .int .u64 0, .int .u32 0, .int .u64 0, .int .u16 0, .int .u32 0, .int .u16 0]
abbrev nilW : Array Value := #[.int .u64 0, .int .u32 0, .int .u64 0, .int .u16 0, .int .u16 0, .int .i64 0]
abbrev nilCh : Array Value := #[.int .u64 0, .int .u32 0, .int .i64 0, .slice none 0 0, .slice none 0 0]
def wyA (v : Vc) (i : Nat) (k : Int) : Array Value := #[.int .u64 (v.r : Nat), .int .u32 (v.c : Nat), .int .u64 (v.b : Nat), .int .u16 (v.p : Nat), .int .u16 (i : Nat), .int .i64 k]
theorem size47 : (Tryd.prog.info? 76).map (·.size) = some 8 := by kernel_rfl
theorem size83 : (Tryd.prog.info? 133).map (·.size) = some 6 := by kernel_rfl
theorem size34c : (Tryd.prog.info? 79).map (·.size) = some 5 := by kernel_rfl
set_option maxRecDepth 100000 in
theorem z47 : ∀ W : World, (zeroValue 76).run Tryd.prog W = .ok (.agg nil8) W := fun W => Tryd.zeroValue76 W
set_option maxRecDepth 100000 in
theorem z83 : ∀ W : World, (zeroValue 133).run Tryd.prog W = .ok (.agg nilW) W := fun W => Tryd.zeroValue133 W
set_option maxRecDepth 100000 in
theorem z34c : ∀ W : World, (zeroValue 79).run Tryd.prog W = .ok (.agg nilCh) W := fun W => Tryd.zeroValue79 W
def wayB (self : Nat) (x : Rp) : Bool := x.on && (x.hd && decide (x.v.b ≠ self))
def aheadB (x y : Rp) : Bool := if eqV (plusV x.v x.c) (plusV y.v y.c) then decide (x.i < y.i) else lessV (plusV x.v x.c) (plusV y.v y.c)
def roleN (self : Nat) (t : Vc) (x : Rp) : Int := if x.on then (if x.hd && lessV x.v t then (if x.v.b = self then 2 else 1) else 4) else 0
def wayA (self : Nat) (x : Rp) (k : Int) : Array Value := if wayB self x then wyA (plusV x.v x.c) x.i k else nilW
end
section
/- Layer 15, by the evaluator: values. -/
open Go.RowKit
open Ev
set_option maxRecDepth 100000
theorem way_any (self : Nat) (x : Rp) (k : Int) (hx : x.ok) (w : World) : Calls Tryd.prog 68 #[.agg (rpA x), .int .u64 (self : Nat), .int .i64 k] w fun e w' => e = .returned (.agg (wayA self x k)) ∧ Below w.heap.size w w' := by
  unfold wayA wayB
  cases h1 : x.on
  · exact ev_call [.b (!_) _ (nb h1), Yes, Yes] (fun _ _ => by kernel_rfl) w
  cases h2 : x.hd
  · exact ev_call [.b (!_) _ (nb h1), .b (!_) _ (nb h2), Yes] (fun _ _ => by kernel_rfl) w
  by_cases h3 : x.v.b = self
  · rw [show (if (true && (true && decide (x.v.b ≠ self))) = true then wyA (plusV x.v x.c) x.i k else nilW) = nilW by simp [h3]]
    exact ev_call [.b (!_) _ (nb h1), .b (!_) _ (nb h2), .b _ _ (cast_eq (decide_eq_true h3))] (fun _ _ => by kernel_rfl) w
  · rw [show (if (true && (true && decide (x.v.b ≠ self))) = true then wyA (plusV x.v x.c) x.i k else nilW) = wyA (plusV x.v x.c) x.i k by simp [h3]]
    exact ev_call [.b (!_) _ (nb h1), .b (!_) _ (nb h2), .b _ _ (cast_eq (decide_eq_false h3)), .c _ _ _ (fun w => ev_plus x.v x.c w hx.1.2.1 hx.2.1)] (fun _ _ => by kernel_rfl) w
theorem waheadW_any (u v : Vc) (i j : Nat) (k l : Int) (w : World) : Calls Tryd.prog 69 #[.agg (wyA u i k), .agg (wyA v j l)] w fun e w' => e = .returned (.bool (if eqV u v then decide (i < j) else lessV u v)) ∧ Below w.heap.size w w' := by
  cases h : eqV u v
  · exact ev_call [.q _ _ _ _ _ (q_neq (equal_vc u v)), .b (!_) _ (nb h), .c _ _ _ (ev_better u v)] (fun _ _ => by kernel_rfl) w
  · rw [show (if true = true then decide (i < j) else lessV u v) = decide ((i : Int) < (j : Int)) by simp]
    exact ev_call [.q _ _ _ _ _ (q_neq (equal_vc u v)), .b (!_) _ (nb h)] (fun _ _ => by kernel_rfl) w
theorem role_any (self : Nat) (t : Vc) (x : Rp) (w : World) : Calls Tryd.prog 54 #[.agg (rpA x), .int .u64 (self : Nat), .agg (vcA t)] w fun e w' => e = .returned (.int .i64 (roleN self t x)) ∧ Below w.heap.size w w' := by
  unfold roleN
  cases h1 : x.on
  · exact ev_call [.b (!_) _ (nb h1)] (fun _ _ => by kernel_rfl) w
  cases h2 : x.hd
  · exact ev_call [.b (!_) _ (nb h1), .b (!_) _ (nb h2), Yes] (fun _ _ => by kernel_rfl) w
  cases h3 : lessV x.v t
  · exact ev_call [.b (!_) _ (nb h1), .b (!_) _ (nb h2), .c _ _ _ (ev_better x.v t), .b (!_) _ (nb h3)] (fun _ _ => by kernel_rfl) w
  by_cases h4 : x.v.b = self
  · rw [if_pos h4]
    exact ev_call [.b (!_) _ (nb h1), .b (!_) _ (nb h2), .c _ _ _ (ev_better x.v t), .b (!_) _ (nb h3), .b _ _ (cast_eq (decide_eq_true h4))] (fun _ _ => by kernel_rfl) w
  · rw [if_neg h4]
    exact ev_call [.b (!_) _ (nb h1), .b (!_) _ (nb h2), .c _ _ _ (ev_better x.v t), .b (!_) _ (nb h3), .b _ _ (cast_eq (decide_eq_false h4))] (fun _ _ => by kernel_rfl) w
end
section
/- Layer 15, by the evaluator: the best way. -/
open Go.RowKit
open Ev
set_option maxRecDepth 100000
abbrev Ev.iv (x : Int) : Value := .int .i64 x
theorem rp_len (x : Rp) : (rpC x).length = 8 := rfl
theorem rp_one (x : Rp) : ∀ u ∈ rpC x, u.oneCell' = true := by
  intro u hu
  simp [rpC, rpA] at hu
  rcases hu with rfl | rfl | rfl | rfl | rfl | rfl | rfl | rfl <;> rfl
theorem rp_info : ∃ i z b, Tryd.prog.info? 76 = some i ∧ i.zero = some z ∧ i.size = 8 ∧ i.bytes = b ∧ z.cells.size = 8 ∧ b ≤ 1000 := by
  refine ⟨_, _, _, rfl, rfl, rfl, rfl, rfl, by decide⟩
theorem rpT : ElT Tryd.prog 67 76 8 rpC := ⟨by kernel_rfl, rp_info, by decide, rp_len, rp_one⟩
theorem rpE : ElV Tryd.prog 67 76 8 rpC (fun x => .agg (rpA x)) := ⟨rpT, by kernel_rfl, fun x => by simp [Value.cells, rpC], .inl ⟨by kernel_rfl, fun x => by simp [rpC]⟩⟩
theorem wrap_nat {k : Nat} (h : k ≤ 1000000) : IntKind.i64.wrap ((k : Int)) = (k : Int) := by
  simp [IntKind.wrap, IntKind.bits, IntKind.signed]
  omega
theorem wrap_next {k n : Nat} (h : k < n) (hn : n ≤ 100000) : iv (IntKind.i64.wrap ((k : Nat) + 1)) = iv ((k + 1 : Nat) : Int) := by
  rw [show ((k : Int) + 1) = ((k + 1 : Nat) : Int) by omega, wrap_nat (by omega)]
theorem wrap_one {k n : Nat} (h : k < n) (hn : n ≤ 100000) : iv (IntKind.i64.wrap ((k : Nat) + 1)) = iv ((k : Int) + 1) := by
  rw [show ((k : Int) + 1) = ((k + 1 : Nat) : Int) by omega, wrap_nat (by omega)]
def bestU (self : Nat) (l : List Rp) : Nat → Option (Nat × Rp)
  | 0 => none
  | k + 1 => match l[k]? with
    | none => bestU self l k
    | some x => if wayB self x && (match bestU self l k with | none => true | some y => aheadB x y.2) then some (k, x) else bestU self l k
def firstA : Option (Nat × Rp) → Array Value
  | none => nilW
  | some y => wyA (plusV y.2.v y.2.c) y.2.i ((y.1 : Int) + 1)
theorem best_step {self : Nat} {l : List Rp} {k : Nat} {x : Rp} (hx : l[k]? = some x) {b : Bool} (h : (wayB self x && (match bestU self l k with | none => true | some y => aheadB x y.2)) = b) : bestU self l (k + 1) = if b then some (k, x) else bestU self l k := by
  show (match l[k]? with | none => bestU self l k | some x => if wayB self x && (match bestU self l k with | none => true | some y => aheadB x y.2) then some (k, x) else bestU self l k) = _
  rw [hx]
  simp only
  rw [h]
theorem equal_w6 (a0 b0 a1 b1 a2 b2 a3 b3 a4 b4 a5 b5 : Int) (w : World) : (Op.equalIn 10000 133 (.agg #[.int .u64 a0, .int .u32 a1, .int .u64 a2, .int .u16 a3, .int .u16 a4, .int .i64 a5]) (.agg #[.int .u64 b0, .int .u32 b1, .int .u64 b2, .int .u16 b3, .int .u16 b4, .int .i64 b5])).run Tryd.prog w = .ok (decide (a0 = b0) && decide (a1 = b1) && decide (a2 = b2) && decide (a3 = b3) && decide (a4 = b4) && decide (a5 = b5)) w := by
  have hS : Tryd.prog.underlying 133 = some (.struct (Tryd.prog.fieldsOf 133)) := by kernel_rfl
  have hp : Tryd.prog.stoodInHeld 133 = false := by kernel_rfl
  have n48 : ∀ W, (Op.equalIn 9999 71 (.agg #[.int .u64 a0, .int .u32 a1, .int .u64 a2, .int .u16 a3]) (.agg #[.int .u64 b0, .int .u32 b1, .int .u64 b2, .int .u16 b3])).run Tryd.prog W = .ok (decide (a0 = b0) && decide (a1 = b1) && decide (a2 = b2) && decide (a3 = b3)) W := fun W => equal_48 a0 b0 a1 b1 a2 b2 a3 b3 W
  rw [show (10000 : Nat) = 9999 + 1 from rfl, run_equalIn_agg w 9999 133 _ _ hS hp]
  simp only [Program.fieldsOf, Tryd.underlying133]
  have u3 := Tryd.underlying3
  have u40 := Tryd.underlying59
  go_simp
  by_cases h0 : a0 = b0 <;> by_cases h1 : a1 = b1 <;> by_cases h2 : a2 = b2 <;> by_cases h3 : a3 = b3 <;> by_cases h4 : a4 = b4 <;> by_cases h5 : a5 = b5 <;> simp [h0, h1, h2, h3, h4, h5]
theorem way_zero (W : World) : (Op.equalIn 10000 133 (.agg nilW) (.agg nilW)).run Tryd.prog W = .ok true W := by
  have h := equal_w6 0 0 0 0 0 0 0 0 0 0 0 0 W
  simpa using h
theorem way_some (v : Vc) (i : Nat) (k : Int) (hk : k ≠ 0) (W : World) : (Op.equalIn 10000 133 (.agg (wyA v i k)) (.agg nilW)).run Tryd.prog W = .ok false W := by
  have h := equal_w6 (v.r : Nat) 0 (v.c : Nat) 0 (v.b : Nat) 0 (v.p : Nat) 0 (i : Nat) 0 k 0 W
  rw [show decide (k = 0) = false by simp [hk], Bool.and_false] at h
  exact h
theorem way_is (self : Nat) (x : Rp) (k : Int) (hx : x.ok) {b : Bool} (h : wayB self x = b) (w : World) : Calls Tryd.prog 68 #[.agg (rpA x), .int .u64 (self : Nat), .int .i64 k] w fun e w' => e = .returned (.agg (if b then wyA (plusV x.v x.c) x.i k else nilW)) ∧ Below w.heap.size w w' := by
  have q := way_any self x k hx w
  unfold wayA at q
  rw [h] at q
  exact q
section
variable (self : Nat) (l : List Rp) (a : Option Addr) (n m : Nat) (R : Bd)
def bsT (F : Option (Nat × Rp)) (k : Nat) : Ev.St := ⟨sp 37 [(0, .v (.int .u64 (self : Nat))), (4, .p 0 0), (5, .p 1 0), (9, .v (.slice a n m)), (10, .v (iv (n : Nat))), (11, .v (iv (k : Nat)))], [(nilW, 133), (firstA F, 133)], [bdO 76 8 rpC (.slice a n m) l, R]⟩
theorem best_loop (hl : l.length = n) (hn : n ≤ 100000) (hok : ∀ x ∈ l, x.ok) {Fn : Option (Nat × Rp)} (hF : bestU self l n = Fn) : TY Tryd.prog 0 (.loop (loopN Tryd.prog 53 0)) (bsT self l a n m R none 0) Unit (.exit 0) (fun _ => bsT self l a n m R Fn n) := by
  refine T_loop (I := {k : Nat // k ≤ n}) (fun k => bsT self l a n m R (bestU self l k.1) k.1) (fun k => n - k.1) (by simp) _ (fun ⟨k, hk⟩ => ?_) ⟨0, Nat.zero_le _⟩
  by_cases h : k < n
  · obtain ⟨x, hx⟩ : ∃ x, l[k]? = some x := ⟨_, List.getElem?_eq_getElem (by omega)⟩
    refine LP_own (k := k) 0 rfl (by omega) fun ⟨g, hg⟩ => ?_
    subst hg
    have d : decide ((k : Int) < (n : Int)) = true := by simp; omega
    have ok := hok x (List.mem_of_getElem? hx)
    have hlt : n - (k + 1) < n - k := by omega
    have k1 : ((k : Int) + 1) ≠ 0 := by omega
    cases hw : wayB self x
    · have e := best_step hx (b := false) (by rw [hw]; rfl)
      cases hf : bestU self l k with
      | none =>
        refine step_at (bsT self l (some ⟨g, 0, none⟩) n m R none k) (by rw [← hf]) ?_ ?_
        exact fun go out => [.b _ _ d, oIx rpE g n m h, oLd rpE 0 g n m hx hl, .r _ _ (wrap_one h hn), .c _ _ _ (way_is self x ((k : Int) + 1) ok hw), .q _ _ _ _ _ (q_neq way_zero), No, No, .r _ _ (wrap_next h hn), go ⟨k + 1, h⟩ hlt (bsT self l (some ⟨g, 0, none⟩) n m R none (k + 1)) (by show _ = bsT _ _ _ _ _ _ (bestU self l (k + 1)) (k + 1); rw [e, hf]; rfl)]
        intro _ _; kernel_rfl
      | some y =>
        refine step_at (bsT self l (some ⟨g, 0, none⟩) n m R (some y) k) (by rw [← hf]) ?_ ?_
        exact fun go out => [.b _ _ d, oIx rpE g n m h, oLd rpE 0 g n m hx hl, .r _ _ (wrap_one h hn), .c _ _ _ (way_is self x ((k : Int) + 1) ok hw), .q _ _ _ _ _ (q_neq way_zero), No, No, .r _ _ (wrap_next h hn), go ⟨k + 1, h⟩ hlt (bsT self l (some ⟨g, 0, none⟩) n m R (some y) (k + 1)) (by show _ = bsT _ _ _ _ _ _ (bestU self l (k + 1)) (k + 1); rw [e, hf]; rfl)]
        intro _ _; kernel_rfl
    · cases hf : bestU self l k with
      | none =>
        have e := best_step hx (b := true) (by rw [hw, hf]; rfl)
        refine step_at (bsT self l (some ⟨g, 0, none⟩) n m R none k) (by rw [← hf]) ?_ ?_
        exact fun go out => [.b _ _ d, oIx rpE g n m h, oLd rpE 0 g n m hx hl, .r _ _ (wrap_one h hn), .c _ _ _ (way_is self x ((k : Int) + 1) ok hw), .q _ _ _ _ _ (q_neq (way_some (plusV x.v x.c) x.i _ k1)), Yes, .q _ _ _ _ _ (q_eql way_zero), Yes, Yes, .r _ _ (wrap_next h hn), go ⟨k + 1, h⟩ hlt (bsT self l (some ⟨g, 0, none⟩) n m R (some (k, x)) (k + 1)) (by show _ = bsT _ _ _ _ _ _ (bestU self l (k + 1)) (k + 1); rw [e]; rfl)]
        intro _ _; kernel_rfl
      | some y =>
        have y1 : ((y.1 : Int) + 1) ≠ 0 := by omega
        have e := best_step hx (b := aheadB x y.2) (by rw [hw, hf]; rfl)
        cases ha : aheadB x y.2
        · rw [ha] at e
          refine step_at (bsT self l (some ⟨g, 0, none⟩) n m R (some y) k) (by rw [← hf]) ?_ ?_
          exact fun go out => [.b _ _ d, oIx rpE g n m h, oLd rpE 0 g n m hx hl, .r _ _ (wrap_one h hn), .c _ _ _ (way_is self x ((k : Int) + 1) ok hw), .q _ _ _ _ _ (q_neq (way_some (plusV x.v x.c) x.i _ k1)), Yes, .q _ _ _ _ _ (q_eql (way_some (plusV y.2.v y.2.c) y.2.i _ y1)), No, .c _ _ _ (waheadW_any (plusV x.v x.c) (plusV y.2.v y.2.c) x.i y.2.i ((k : Int) + 1) ((y.1 : Int) + 1)), .b _ _ ha, .r _ _ (wrap_next h hn), go ⟨k + 1, h⟩ hlt (bsT self l (some ⟨g, 0, none⟩) n m R (some y) (k + 1)) (by show _ = bsT _ _ _ _ _ _ (bestU self l (k + 1)) (k + 1); rw [e, hf]; rfl)]
          intro _ _; kernel_rfl
        · rw [ha] at e
          refine step_at (bsT self l (some ⟨g, 0, none⟩) n m R (some y) k) (by rw [← hf]) ?_ ?_
          exact fun go out => [.b _ _ d, oIx rpE g n m h, oLd rpE 0 g n m hx hl, .r _ _ (wrap_one h hn), .c _ _ _ (way_is self x ((k : Int) + 1) ok hw), .q _ _ _ _ _ (q_neq (way_some (plusV x.v x.c) x.i _ k1)), Yes, .q _ _ _ _ _ (q_eql (way_some (plusV y.2.v y.2.c) y.2.i _ y1)), No, .c _ _ _ (waheadW_any (plusV x.v x.c) (plusV y.2.v y.2.c) x.i y.2.i ((k : Int) + 1) ((y.1 : Int) + 1)), .b _ _ ha, .r _ _ (wrap_next h hn), go ⟨k + 1, h⟩ hlt (bsT self l (some ⟨g, 0, none⟩) n m R (some (k, x)) (k + 1)) (by show _ = bsT _ _ _ _ _ _ (bestU self l (k + 1)) (k + 1); rw [e]; rfl)]
          intro _ _; kernel_rfl
  · obtain rfl : k = n := by omega
    have d : decide ((k : Int) < (k : Int)) = false := by simp
    cases Fn with
    | none =>
      refine step_at (bsT self l a k m R none k) (by rw [← hF]) ?_ ?_
      exact fun go out => [.b _ _ d, out () (bsT self l a k m R none k) rfl]
      intro _ _; kernel_rfl
    | some y =>
      refine step_at (bsT self l a k m R (some y) k) (by rw [← hF]) ?_ ?_
      exact fun go out => [.b _ _ d, out () (bsT self l a k m R (some y) k) rfl]
      intro _ _; kernel_rfl
theorem best_fun (hl : l.length = n) (hn : n ≤ 100000) (hok : ∀ x ∈ l, x.ok) : Fun Tryd.prog 53 [.int .u64 (self : Nat), .slice a n m] [bdO 76 8 rpC (.slice a n m) l] Unit (fun _ => .agg (firstA (bestU self l n))) (fun _ => [bdO 76 8 rpC (.slice a n m) l]) := by
  cases hF : bestU self l n with
  | none => exact ev_fun (fun R fin => [.l _ _ _ _ _ _ (best_loop self l a n m R hl hn hok hF) fun _ => [fin ()]]) (fun R β w => by kernel_rfl)
  | some y => exact ev_fun (fun R fin => [.l _ _ _ _ _ _ (best_loop self l a n m R hl hn hok hF) fun _ => [fin ()]]) (fun R β w => by kernel_rfl)
end
end
end Go.Proofs.YtebnpblincgjlaaDoor
section
/- Places in lists that are owned, whatever their header. -/
namespace Go.Proofs.YtebnpblincgjlaaDoor.Ev
open Go.RowKit
/-- The place that many cells on. -/
def hop (a : Option Addr) (j : Nat) : Option Addr := match a with
  | none => none
  | some x => some ⟨x.1, j, none⟩
section
variable {α : Type} {P : Program} {t e : TypeId} {size : Nat} {enc : α → List Value} {val : α → Value} (E : ElV P t e size enc val)
def oJx (E : ElV P t e size enc val) (p : Nat) (a : Option Addr) (n m : Nat) {l : List α} {k : Nat} (hk : k < n) (hn : l.length = n) : Ora P :=
  .x true (.s fun _ => do pure (.value (← Instr.indexAt t (.slice a n m) (.int .i64 (k : Nat))))) p [bdO e size enc (.slice a n m) l] [bdO e size enc (.slice a n m) l] (.pointer (hop a (k * size)))
    (fun w0 F R β w K => by
      subst hn
      have h : Own w 0 e size enc (.slice a l.length m) l := K.one
      obtain ⟨g, rfl⟩ := own_ptr h hk
      show stepS P _ _ w
      unfold stepS
      simp only [Sem.run_bind, Sem.run_pure, Result.andThen_ok, run_ix E l.length m hk w]
      exact ⟨rfl, K⟩)
def oJd (E : ElV P t e size enc val) (p : Nat) (a : Option Addr) (n m : Nat) {l : List α} {k : Nat} {x : α} (hx : l[k]? = some x) (hn : l.length = n) : Ora P :=
  .x true (.s fun _ => do pure (.value (← Instr.loadAt e (.pointer (hop a (k * size)))))) p [bdO e size enc (.slice a n m) l] [bdO e size enc (.slice a n m) l] (val x)
    (fun w0 F R β w K => by
      subst hn
      have h : Own w 0 e size enc (.slice a l.length m) l := K.one
      obtain ⟨g, rfl⟩ := own_ptr h (List.getElem?_eq_some_iff.1 hx).1
      show stepS P _ _ w
      unfold stepS
      have q := run_ld E h hx
      simp only [Sem.run_bind, Sem.run_pure, Result.andThen_ok, hop, q]
      exact ⟨trivial, K⟩)
def oJt (E : ElV P t e size enc val) (p : Nat) (a : Option Addr) (n m : Nat) {l l2 : List α} {k : Nat} (x : α) (hk : k < n) (hn : l.length = n) (h2 : l.set k x = l2) : Ora P :=
  .x false (.s fun _ => do (Instr.storeAt e (.pointer (hop a (k * size))) (val x)); pure .skip) p [bdO e size enc (.slice a n m) l] [bdO e size enc (.slice a n m) l2] undef
    (fun w0 F R β w K => by
      subst hn
      subst h2
      have h : Own w 0 e size enc (.slice a l.length m) l := K.one
      obtain ⟨g, rfl⟩ := own_ptr h hk
      show stepS P _ _ w
      unfold stepS
      simp only [Sem.run_bind, Sem.run_pure, Result.andThen_ok, hop, run_st E h hk x]
      obtain ⟨h1, h2⟩ := h.store E.len k x hk
      refine ⟨trivial, ?_⟩
      refine Kf.chg (A' := sepL [bdO e size enc (.slice (some ⟨g, 0, none⟩) l.length m) (l.set k x)]) K (mv_grown h2) (fun j hj => .inl (.inl hj)) ⟨h1, trivial, fun _ _ h => h⟩ (fun j hj => .inl hj) (Nat.le_refl _))
end
end Go.Proofs.YtebnpblincgjlaaDoor.Ev
end
namespace Go.Proofs.YtebnpblincgjlaaDoor
section
open Go.RowKit
def inC (x : Int) : List Value := [.int .i64 x]
structure Pd where
 p0 : Int
 p1 : Bool
 p2 : Bool
 p3 : Bool
 p4 : Bool
 p5 : Bool
 p6 : Bool
 p7 : Int
 p8 : Int
 p9 : Int
 p10 : Int
 p11 : Int
 p12 : Int
 p13 : Int
 p14 : Int
 p15 : Int
def pdA (x : Pd) : Array Value := #[.int .u8 x.p0, .bool x.p1, .bool x.p2, .bool x.p3, .bool x.p4, .bool x.p5, .bool x.p6, .int .u8 x.p7, .int .u64 x.p8, .int .u32 x.p9, .int .u64 x.p10, .int .u16 x.p11, .int .u16 x.p12, .int .u16 x.p13, .int .u16 x.p14, .int .u16 x.p15]
abbrev pdV (x : Pd) : Value := .agg (pdA x)
theorem pd_all (x : Pd) : (pdA x).all (·.oneCell') = true := by simp [pdA, Value.oneCell']
theorem size_pd : (Tryd.prog.info? 61).map (·.size) = some 16 := by kernel_rfl
theorem pd_info (x : Pd) : (Tryd.prog.info? 61).map (·.size) = some (pdA x).size := size_pd
structure Td where
 p0 : Int
 p1 : Int
 p2 : Bool
 p3 : Bool
 p4 : Bool
 p5 : Bool
 p6 : Bool
 p7 : Bool
 p8 : Int
 p9 : Int
 p10 : Int
 p11 : Int
 p12 : Int
 p13 : Int
 p14 : Int
 p15 : Int
 p16 : Int
def tdA (x : Td) : Array Value := #[.int .i64 x.p0, .int .u8 x.p1, .bool x.p2, .bool x.p3, .bool x.p4, .bool x.p5, .bool x.p6, .bool x.p7, .int .u8 x.p8, .int .u64 x.p9, .int .u32 x.p10, .int .u64 x.p11, .int .u16 x.p12, .int .u16 x.p13, .int .u16 x.p14, .int .u16 x.p15, .int .u16 x.p16]
abbrev tdV (x : Td) : Value := .agg (tdA x)
def tdC (x : Td) : List Value := (tdA x).toList
theorem td_len (x : Td) : (tdC x).length = 17 := rfl
theorem td_all (x : Td) : (tdA x).all (·.oneCell') = true := by simp [tdA, Value.oneCell']
theorem td_one (x : Td) : ∀ u ∈ tdC x, u.oneCell' = true := by
 have := td_all x
 rw [Array.all_eq_true'] at this
 intro u hu
 exact this u (by simpa [tdC] using hu)
theorem info_td' : ∃ i z b, Tryd.prog.info? 89 = some i ∧ i.zero = some z ∧ i.size = 17 ∧ i.bytes = b ∧ z.cells.size = 17 ∧ b ≤ 1000 := by
 obtain ⟨i, h1, h3, h4, h5⟩ := info_parts (show (Tryd.prog.info? 89).map (fun i => (i.zero, i.size, i.bytes)) = some (some (.agg #[.int .i64 0, .int .u8 0, .bool false, .bool false, .bool false, .bool false, .bool false, .bool false, .int .u8 0, .int .u64 0, .int .u32 0, .int .u64 0, .int .u16 0, .int .u16 0, .int .u16 0, .int .u16 0, .int .u16 0]), 17, 56) by kernel_rfl)
 exact ⟨i, _, _, h1, h3, h4, h5, rfl, by decide⟩
theorem tdT : ElT Tryd.prog 44 89 17 tdC := ⟨Tryd.underlying44, info_td', by decide, td_len, td_one⟩
theorem info_in' : ∃ i z b, Tryd.prog.info? 3 = some i ∧ i.zero = some z ∧ i.size = 1 ∧ i.bytes = b ∧ z.cells.size = 1 ∧ b ≤ 1000 := by
 obtain ⟨i, h1, h3, h4, h5⟩ := info_parts (show (Tryd.prog.info? 3).map (fun i => (i.zero, i.size, i.bytes)) = some (some (.int .i64 0), 1, 8) by kernel_rfl)
 exact ⟨i, _, _, h1, h3, h4, h5, rfl, by decide⟩
theorem inT : ElT Tryd.prog 45 3 1 inC := ⟨Tryd.underlying45, info_in', by decide, fun _ => rfl, fun x u hu => by simp [inC] at hu; subst hu; rfl⟩
abbrev rolesA : Array Value := #[.int .u8 0, .int .u8 1, .int .u8 1, .int .u8 2, .int .u8 3]
theorem rolesNo : Tryd.prog.globalNamed "girder/tree.roles" = some 0 := by kernel_rfl
def RolesAt (w : World) : Prop := w.var? Tryd.prog "girder/tree.roles" = some rolesA
theorem RolesAt.lt {w : World} (h : RolesAt w) : 0 < w.heap.size := by
 unfold RolesAt World.var? at h
 rw [rolesNo] at h
 simp only [Option.bind_some] at h
 rcases Nat.lt_or_ge 0 w.heap.size with h' | h'
 ·
  exact h'
 ·
  rw [Array.getElem?_eq_none h'] at h; cases h
theorem RolesAt.cell {w : World} (h : RolesAt w) (j : Nat) : w.cell? ⟨0, j, none⟩ = rolesA[j]? := by
 unfold RolesAt World.var? at h
 rw [rolesNo] at h
 simp only [Option.bind_some] at h
 cases c : w.heap[0]? with
 | none => rw [c] at h; cases h
 | some o =>
  rw [c] at h
  cases o with
  | cells cs t q =>
   simp only [Option.some.injEq] at h
   subst h
   exact cell_of_row w 0 j _ t q c
  | _ => cases h
end
end Go.Proofs.YtebnpblincgjlaaDoor
