/- A link: what it is; what its small calls answer. -/
import Derived.Test.YtiophmmcennjnaaLk0
import Derived.Test.YtiophmmcennjnaaChecked
import Derived.KernelRfl
namespace Go.Proofs.Ytiophmmcennjnaa
open Go.RowKit
attribute [local irreducible] wpQuiet wpList
set_option linter.unusedSimpArgs false
set_option linter.unusedVariables false

theorem ret_bool {a b : Bool} (h : a = b) : Ending.returned (.bool a) = .returned (.bool b) := by rw [h]
/-- A text as an element. -/
def stC (s : ByteArray) : List Value := [.string s]
theorem stC_len (s : ByteArray) : (stC s).length = 1 := rfl
theorem stC_one (s : ByteArray) : ∀ u ∈ stC s, u.oneCell' = true := fun u hu => by rw [List.mem_singleton.1 hu]; rfl
theorem info9 : ∃ i z b, Try.prog.info? 9 = some i ∧ i.zero = some z ∧ i.size = 1 ∧ i.bytes = b ∧ z.cells.size = 1 ∧ b ≤ 1000 := by
  have h : (Try.prog.info? 9).map (fun i => (i.zero, i.size, i.bytes)) = some (some (.string ⟨#[]⟩), 1, 16) := by kernel_rfl
  cases c : Try.prog.info? 9 with
  | none => rw [c] at h; cases h
  | some i =>
    rw [c] at h
    simp only [Option.map_some, Option.some.injEq, Prod.mk.injEq] at h
    exact ⟨i, _, _, rfl, h.1, h.2.1, h.2.2, rfl, by decide⟩
theorem stT : ElT Try.prog 26 9 1 stC := ⟨Try.underlying26, info9, by decide, stC_len, stC_one⟩
theorem one_st (x : ByteArray) : ∀ W : World, (Instr.buildSlice 26 1 #[(0, .string x)]).run Try.prog W = .ok (.slice (some ⟨W.heap.size, 0, none⟩) 1 1) (W.alloc (.cells #[.string x] 9)) := fun W => by kernel_rfl
/-- A link. -/
structure LkW (w : World) (B g : Nat) (up : Bool) (v0 v1 : Value) (a b : List ByteArray) : Prop where
  blk : Blk w g #[.bool up, v0, v1] 40
  o0 : Own w B 9 1 stC v0 a
  o1 : Own w B 9 1 stC v1 b
  n0 : v0.ownBlock ≠ some g
  n1 : v1.ownBlock ≠ some g
  nd : ∀ k, v0.ownBlock = some k → v1.ownBlock ≠ some k
  low : B ≤ g
def lkF (g : Nat) (v0 v1 : Value) (k : Nat) : Prop := k = g ∨ v0.ownBlock = some k ∨ v1.ownBlock = some k
theorem LkW.fr {w w' : World} {B g : Nat} {up : Bool} {v0 v1 : Value} {a b : List ByteArray} {G : Nat → Prop} (h : LkW w B g up v0 v1 a b) (m : Mv G w w') (n : ∀ k, lkF g v0 v1 k → ¬ G k) : LkW w' B g up v0 v1 a b :=
  ⟨h.blk.fr m (n g (.inl rfl)), h.o0.fr m (fun k q => n k (.inr (.inl q))), h.o1.fr m (fun k q => n k (.inr (.inr q))), h.n0, h.n1, h.nd, h.low⟩
theorem LkW.lt {w : World} {B g k : Nat} {up : Bool} {v0 v1 : Value} {a b : List ByteArray} (h : LkW w B g up v0 v1 a b) (q : lkF g v0 v1 k) : k < w.heap.size := by
  rcases q with rfl | q | q
  · exact h.blk.lt
  · exact (h.o0.lt k q).2
  · exact (h.o1.lt k q).2
def bdL (B g : Nat) (up : Bool) (v0 v1 : Value) (a b : List ByteArray) : Bd := ⟨fun W => LkW W B g up v0 v1 a b, lkF g v0 v1, fun h q => h.lt q, fun h m n => h.fr m n⟩
/-- What a call that changes a link leaves. -/
structure LkR (w : World) (B g : Nat) (v0 v1 : Value) (up : Bool) (u0 u1 : Value) (a b : List ByteArray) (w' : World) : Prop where
  lk : LkW w' B g up u0 u1 a b
  mv : Mv (lkF g v0 v1) w w'
  nw : ∀ k, lkF g u0 u1 k → lkF g v0 v1 k ∨ w.heap.size ≤ k

section
variable {w : World} {B g : Nat} {up : Bool} {v0 v1 : Value} {a b : List ByteArray}
theorem has_any (g : Nat) (e : Int) (w : World) : Calls Try.prog 13 #[.pointer (some ⟨g, 0, none⟩), .int .i64 e] w fun x w' => x = .returned (.bool (decide (0 ≤ e) && decide (e < 2))) ∧ w' = w := by
  cases c0 : decide (0 ≤ e) with
  | false =>
    have h0 : ¬ (0 ≤ e) := of_decide_eq_false c0
    go_enter Try.func13, Try.ntmps13
    go_wp2
    go_ret
    exact ⟨rfl, rfl⟩
  | true =>
    have h0 : 0 ≤ e := of_decide_eq_true c0
    cases c1 : decide (e < 2) with
    | false =>
      have h1 : ¬ (e < 2) := of_decide_eq_false c1
      go_enter Try.func13, Try.ntmps13
      go_wp2
      go_ret
      exact ⟨rfl, rfl⟩
    | true =>
      have h1 : e < 2 := of_decide_eq_true c1
      go_enter Try.func13, Try.ntmps13
      go_wp2
      go_ret
      exact ⟨rfl, rfl⟩
theorem has_nil (e : Int) (w : World) : Calls Try.prog 13 #[.pointer none, .int .i64 e] w fun x w' => x = .returned (.bool false) ∧ w' = w := by
  go_enter Try.func13, Try.ntmps13
  go_wp2
  go_ret
  exact ⟨rfl, rfl⟩
/-- How many are under way. -/
def unN (e : Int) (a b : List ByteArray) : Nat := if e = 0 then a.length else if e = 1 then b.length else 0
theorem under_any (h : LkW w B g up v0 v1 a b) (e : Int) : Calls Try.prog 12 #[.pointer (some ⟨g, 0, none⟩), .int .i64 e] w fun x w' => x = .returned (.int .i64 (unN e a b : Nat)) ∧ w' = w := by
  obtain ⟨q0, c0, rfl, -, -⟩ := h.o0.shape
  obtain ⟨q1, c1, rfl, -, -⟩ := h.o1.shape
  have k0 : w.cell? ⟨g, 1, none⟩ = some (.slice q0 a.length c0) := h.blk.cell 1
  have k1 : w.cell? ⟨g, 2, none⟩ = some (.slice q1 b.length c1) := h.blk.cell 2
  have HK0 := Lib.hid k0
  have HK1 := Lib.hid k1
  clear k0 k1 h
  by_cases e0 : e = 0
  · subst e0
    go_enter Try.func12, Try.ntmps12
    have k0 := HK0.out
    go_wp2_with (go_at_call 13; refine (has_any g 0 w).mono ?_; rintro x w1 ⟨rfl, rfl⟩)
    go_ret
    exact ⟨rfl, rfl⟩
  · by_cases e1 : e = 1
    · subst e1
      go_enter Try.func12, Try.ntmps12
      have k1 := HK1.out
      go_wp2_with (go_at_call 13; refine (has_any g 1 w).mono ?_; rintro x w1 ⟨rfl, rfl⟩)
      go_ret
      exact ⟨rfl, rfl⟩
    · have E := Lib.hid (show 0 = unN e a b by unfold unN; rw [if_neg e0, if_neg e1])
      have H := Lib.hid (show (decide (0 ≤ e) && decide (e < 2)) = false by
        rw [Bool.and_eq_false_iff, decide_eq_false_iff_not, decide_eq_false_iff_not]; omega)
      clear e0 e1
      go_enter Try.func12, Try.ntmps12
      go_wp2_with (go_at_call 13; refine (has_any g e w).mono ?_; rw [H.out]; rintro x w1 ⟨rfl, rfl⟩)
      go_ret
      rw [← E.out]
      exact ⟨rfl, rfl⟩
theorem under_nil (e : Int) (w : World) : Calls Try.prog 12 #[.pointer none, .int .i64 e] w fun x w' => x = .returned (.int .i64 0) ∧ w' = w := by
  go_enter Try.func12, Try.ntmps12
  go_wp2_with (go_at_call 13; refine (has_nil e w).mono ?_; rintro x w1 ⟨rfl, rfl⟩)
  go_ret
  exact ⟨rfl, rfl⟩
theorem up_any (h : LkW w B g up v0 v1 a b) : Calls Try.prog 11 #[.pointer (some ⟨g, 0, none⟩)] w fun x w' => x = .returned (.bool up) ∧ w' = w := by
  have k0 : w.cell? ⟨g, 0, none⟩ = some (.bool up) := h.blk.cell 0
  clear h
  go_enter Try.func11, Try.ntmps11
  go_wp2
  go_ret
  exact ⟨rfl, rfl⟩
theorem up_nil (w : World) : Calls Try.prog 11 #[.pointer none] w fun x w' => x = .returned (.bool false) ∧ w' = w := by
  go_enter Try.func11, Try.ntmps11
  go_wp2
  go_ret
  exact ⟨rfl, rfl⟩
theorem new_any (w : World) : Calls Try.prog 6 #[] w fun x w' => ∃ g, x = .returned (.pointer (some ⟨g, 0, none⟩)) ∧ g = w.heap.size ∧ LkW w' w.heap.size g true (.slice none 0 0) (.slice none 0 0) [] [] ∧ Below w.heap.size w w' := by
  have key : ∃ g, Ending.returned (Value.pointer (some ⟨w.heap.size, 0, none⟩)) = .returned (.pointer (some ⟨g, 0, none⟩)) ∧ g = w.heap.size ∧ LkW (w.alloc (.cells #[.bool true, .slice none 0 0, .slice none 0 0] 40)) w.heap.size g true (.slice none 0 0) (.slice none 0 0) [] [] ∧ Below w.heap.size w (w.alloc (.cells #[.bool true, .slice none 0 0, .slice none 0 0] 40)) :=
    ⟨_, rfl, rfl, ⟨Blk.new _ _ _, Own.nil _ _ _ _ _, Own.nil _ _ _ _ _, (fun h => by cases h), (fun h => by cases h), (fun k h => by cases h), Nat.le_refl _⟩, (Below.refl _ _).alloc (Nat.le_refl _) _⟩
  have K := Lib.hid key
  clear key
  go_enter Try.func6, Try.ntmps6
  go_wp2
  go_ret
  exact K.out
end
end Go.Proofs.Ytiophmmcennjnaa
