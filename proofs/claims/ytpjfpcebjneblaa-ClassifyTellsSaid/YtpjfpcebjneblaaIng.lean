/- What package classify answers: which settings may be; has a frame a VLAN of its own; its VLAN, and what becomes of it. -/
import Derived.Test.YtpjfpcebjneblaaTab2
import Derived.Test.YtpjfpcebjneblaaFrm
import Derived.Test.YtpjfpcebjneblaaOf
import Derived.Test.YtpjfpcebjneblaaQuietly
namespace Go.Proofs.Ytpjfpcebjneblaa
open Go.RowKit
attribute [local irreducible] wpQuiet
set_option linter.unusedSimpArgs false
set_option linter.unusedVariables false

/-- A port's settings. -/
abbrev poA (pv : Nat) (ac : Int) (fi : Bool) : Array Value := #[.int .u16 (pv : Nat), .int .i64 ac, .bool fi]
theorem poSize : (Try.prog.info? 30).map (·.size) = some 3 := by kernel_rfl
theorem po_one (pv : Nat) (ac : Int) (fi : Bool) : (poA pv ac fi).all (·.oneCell') = true := by simp [Value.oneCell']

/-- May they be? -/
def poOk (pv : Nat) (ac : Int) : Bool := decide (1 ≤ pv) && decide (pv ≤ 4094) && decide (0 ≤ ac) && decide (ac ≤ 2)
theorem good_port (pv : Nat) (ac : Int) (fi : Bool) (w : World) : Calls Try.prog 11 #[.agg (poA pv ac fi)] w fun e w' => e = .returned (.bool (poOk pv ac)) ∧ Below w.heap.size w w' := by
  have HB := Lib.hid ((Below.refl w.heap.size w).alloc (Nat.le_refl _) (.cells (poA pv ac fi) 30))
  cases h1 : decide ((1 : Int) ≤ (pv : Int)) with
  | false =>
    have R := Lib.hid (show false = poOk pv ac by unfold poOk; rw [decide_eq_false (show ¬ 1 ≤ pv by have := of_decide_eq_false h1; omega)]; rfl)
    go_enter Try.func11, Try.ntmps11
    go_wp2
    go_ret
    exact ⟨ret_bool R.out, HB.out⟩
  | true =>
    cases h2 : decide ((pv : Int) ≤ 4094) with
    | false =>
      have R := Lib.hid (show false = poOk pv ac by unfold poOk; rw [decide_eq_false (show ¬ pv ≤ 4094 by have := of_decide_eq_false h2; omega), Bool.and_false]; rfl)
      go_enter Try.func11, Try.ntmps11
      go_wp2
      go_ret
      exact ⟨ret_bool R.out, HB.out⟩
    | true =>
      cases h3 : decide (0 ≤ ac) with
      | false =>
        have R := Lib.hid (show false = poOk pv ac by unfold poOk; rw [h3, Bool.and_false]; rfl)
        go_enter Try.func11, Try.ntmps11
        go_wp2
        go_ret
        exact ⟨ret_bool R.out, HB.out⟩
      | true =>
        have R := Lib.hid (show decide (ac ≤ 2) = poOk pv ac by
          unfold poOk
          rw [h3, decide_eq_true (show 1 ≤ pv by have := of_decide_eq_true h1; omega), decide_eq_true (show pv ≤ 4094 by have := of_decide_eq_true h2; omega)]
          rfl)
        go_enter Try.func11, Try.ntmps11
        go_wp2
        go_ret
        exact ⟨ret_bool R.out, HB.out⟩

/-- Has it a VLAN of its own? -/
def ownB (tg : Bool) (vi : Nat) : Bool := tg && decide (vi ≠ 0)
theorem own_any (arr : Array Value) (tg : Bool) (vi : Nat) (a12 : arr[12]? = some (.bool tg)) (a15 : arr[15]? = some (.int .u16 (vi : Nat))) (w : World) :
    Calls Try.prog 32 #[.agg arr] w fun e w' => e = .returned (.bool (ownB tg vi)) ∧ Below w.heap.size w w' := by
  have HB := Lib.hid ((Below.refl w.heap.size w).alloc (Nat.le_refl _) (.cells arr 46))
  have e1 : ((vi : Int) != 0) = decide (vi ≠ 0) := by rw [Bool.eq_iff_iff]; simp
  cases tg with
  | true =>
    have R := Lib.hid (show decide (vi ≠ 0) = ownB true vi from rfl)
    obtain ⟨b, hb⟩ : ∃ b : Bool, decide (vi ≠ 0) = b := ⟨_, rfl⟩
    rw [hb] at e1
    have hbR := Lib.hid hb
    clear hb
    go_enter Try.func32, Try.ntmps32
    go_wp2
    all_goals
      go_ret
      exact ⟨ret_bool (by rw [← R.out, hbR.out]), HB.out⟩
  | false =>
    clear e1
    go_enter Try.func32, Try.ntmps32
    go_wp2
    go_ret
    exact ⟨rfl, HB.out⟩

/-- Does a port take such frames? -/
def accB (ac : Int) (own : Bool) : Bool := if ac = 1 then own else if ac = 2 then !own else true
theorem accepts_any (pv : Nat) (ac : Int) (fi own : Bool) (w : World) : Calls Try.prog 33 #[.agg (poA pv ac fi), .bool own] w fun e w' => e = .returned (.bool (accB ac own)) ∧ Below w.heap.size w w' := by
  have HB := Lib.hid ((Below.refl w.heap.size w).alloc (Nat.le_refl _) (.cells (poA pv ac fi) 30))
  by_cases h1 : ac = 1
  · subst h1
    go_enter Try.func33, Try.ntmps33
    go_wp2
    go_ret
    exact ⟨rfl, HB.out⟩
  · by_cases h2 : ac = 2
    · subst h2
      go_enter Try.func33, Try.ntmps33
      go_wp2
      go_ret
      exact ⟨rfl, HB.out⟩
    · have e1 : (ac == 1) = false := by simpa using h1
      have e2 : (ac == 2) = false := by simpa using h2
      have R := Lib.hid (show true = accB ac own by unfold accB; rw [if_neg h1, if_neg h2])
      clear h1 h2
      go_enter Try.func33, Try.ntmps33
      go_wp2
      go_ret
      exact ⟨ret_bool R.out, HB.out⟩
end Go.Proofs.Ytpjfpcebjneblaa
