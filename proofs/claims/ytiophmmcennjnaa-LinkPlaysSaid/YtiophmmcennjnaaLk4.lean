/- That a link speaks; the filling of one. -/
import Derived.Test.YtiophmmcennjnaaLk3
namespace Go.Proofs.Ytiophmmcennjnaa
open Go.RowKit
attribute [local irreducible] wpQuiet wpList
set_option linter.unusedSimpArgs false
set_option linter.unusedVariables false

theorem LkW.ge {w : World} {B g k : Nat} {up : Bool} {v0 v1 : Value} {a b : List ByteArray} (h : LkW w B g up v0 v1 a b) (q : lkF g v0 v1 k) : B ≤ k := by
  rcases q with rfl | q | q
  · exact h.low
  · exact (h.o0.lt k q).1
  · exact (h.o1.lt k q).1
theorem LkR.below {w w' : World} {B g : Nat} {up u : Bool} {v0 v1 u0 u1 : Value} {a b a' b' : List ByteArray} (h : LkW w B g up v0 v1 a b) (r : LkR w B g v0 v1 u u0 u1 a' b' w') (hB : B ≤ w.heap.size) : Below B w w' :=
  ⟨r.mv.os, r.mv.tape, r.mv.output, r.mv.size, fun k hk => r.mv.block k (by omega) (fun q => by have := h.ge q; omega)⟩
/-- A link of a law's own, and nothing else turned. -/
structure Lw (w0 w : World) (g : Nat) (up : Bool) (a b : List ByteArray) : Prop where
  lk : ∃ v0 v1, LkW w w0.heap.size g up v0 v1 a b
  below : Below w0.heap.size w0 w
theorem Lw.next {w0 w w' : World} {g : Nat} {up : Bool} {a b : List ByteArray} (h : Lw w0 w g up a b) (hb : Below w.heap.size w w') : Lw w0 w' g up a b := by
  obtain ⟨v0, v1, k⟩ := h.lk
  exact ⟨⟨v0, v1, k.fr (Mv.of_below (F := fun _ => False) hb) (fun _ _ q => q)⟩, h.below.trans (hb.mono h.below.size)⟩
section
variable {w0 w : World} {g : Nat} {up : Bool} {a b : List ByteArray}
theorem lw_new (w : World) : Calls Try.prog 6 #[] w fun x w' => ∃ g, x = .returned (.pointer (some ⟨g, 0, none⟩)) ∧ Lw w w' g true [] [] :=
  (new_any w).mono fun x w' ⟨g, h1, h2, h3, h4⟩ => ⟨g, h1, ⟨_, _, h3⟩, h4⟩
theorem lw_has (h : Lw w0 w g up a b) (e : Int) : Calls Try.prog 12 #[.pointer (some ⟨g, 0, none⟩), .int .i64 e] w fun x w' => x = .returned (.int .i64 (unN e a b : Nat)) ∧ w' = w := by
  obtain ⟨v0, v1, k⟩ := h.lk
  exact under_any k e
theorem lw_up (h : Lw w0 w g up a b) : Calls Try.prog 11 #[.pointer (some ⟨g, 0, none⟩)] w fun x w' => x = .returned (.bool up) ∧ w' = w := by
  obtain ⟨v0, v1, k⟩ := h.lk
  exact up_any k
theorem lw_cut (h : Lw w0 w g up a b) (u : Bool) : Calls Try.prog 9 #[.pointer (some ⟨g, 0, none⟩), .bool u] w fun x w' => x = .returned (.bool (u != up)) ∧ Lw w0 w' g u (if u then a else []) (if u then b else []) := by
  obtain ⟨v0, v1, k⟩ := h.lk
  exact (cut_any k u).mono fun x w' ⟨h1, u0, u1, h2⟩ => ⟨h1, ⟨u0, u1, h2.lk⟩, h.below.trans (h2.below k h.below.size)⟩
theorem lw_send0 (h : Lw w0 w g true a b) (x : ByteArray) (hn : a.length < 1000) : Calls Try.prog 10 #[.pointer (some ⟨g, 0, none⟩), .int .i64 0, .string x] w fun y w' => y = .returned (.bool true) ∧ Lw w0 w' g true (a ++ [x]) b := by
  obtain ⟨v0, v1, k⟩ := h.lk
  exact (send_yes0 k h.below.size x hn).mono fun y w' ⟨h1, u0, u1, h2⟩ => ⟨h1, ⟨u0, u1, h2.lk⟩, h.below.trans (h2.below k h.below.size)⟩
theorem lw_send1 (h : Lw w0 w g true a b) (x : ByteArray) (hn : b.length < 1000) : Calls Try.prog 10 #[.pointer (some ⟨g, 0, none⟩), .int .i64 1, .string x] w fun y w' => y = .returned (.bool true) ∧ Lw w0 w' g true a (b ++ [x]) := by
  obtain ⟨v0, v1, k⟩ := h.lk
  exact (send_yes1 k h.below.size x hn).mono fun y w' ⟨h1, u0, u1, h2⟩ => ⟨h1, ⟨u0, u1, h2.lk⟩, h.below.trans (h2.below k h.below.size)⟩
theorem lw_sendno (h : Lw w0 w g up a b) (e : Int) (x : ByteArray) (hn : goes e up a b = false) : Calls Try.prog 10 #[.pointer (some ⟨g, 0, none⟩), .int .i64 e, .string x] w fun y w' => y = .returned (.bool false) ∧ w' = w := by
  obtain ⟨v0, v1, k⟩ := h.lk
  exact send_no k e x hn
theorem lw_come0 {x : ByteArray} {r : List ByteArray} (h : Lw w0 w g up (x :: r) b) (hn : r.length < 1000) : Calls Try.prog 8 #[.pointer (some ⟨g, 0, none⟩), .int .i64 0] w fun y w' => y = .returned (.tuple #[.string x, .bool true]) ∧ Lw w0 w' g up r b := by
  obtain ⟨v0, v1, k⟩ := h.lk
  exact (come_yes0 k hn).mono fun y w' ⟨h1, u0, u1, h2⟩ => ⟨h1, ⟨u0, u1, h2.lk⟩, h.below.trans (h2.below k h.below.size)⟩
theorem lw_come1 {x : ByteArray} {r : List ByteArray} (h : Lw w0 w g up a (x :: r)) (hn : r.length < 1000) : Calls Try.prog 8 #[.pointer (some ⟨g, 0, none⟩), .int .i64 1] w fun y w' => y = .returned (.tuple #[.string x, .bool true]) ∧ Lw w0 w' g up a r := by
  obtain ⟨v0, v1, k⟩ := h.lk
  exact (come_yes1 k hn).mono fun y w' ⟨h1, u0, u1, h2⟩ => ⟨h1, ⟨u0, u1, h2.lk⟩, h.below.trans (h2.below k h.below.size)⟩
theorem lw_comeno (h : Lw w0 w g up a b) (e : Int) (hn : unN e a b = 0) : Calls Try.prog 8 #[.pointer (some ⟨g, 0, none⟩), .int .i64 e] w fun y w' => y = .returned (.tuple #[.string ⟨#[]⟩, .bool false]) ∧ w' = w := by
  obtain ⟨v0, v1, k⟩ := h.lk
  exact come_no k e hn
end
theorem speaks_any (w : World) : Calls Try.prog 5 #[] w fun y w' => y = .returned (.bool true) ∧ Below w.heap.size w w' := by
  go_enter Try.func5, Try.ntmps5
  go_upto_region 2 with (go_at_call 6; refine (lw_new w).mono ?_; rintro y w1 ⟨g, rfl, hL⟩)
  have H1 := Lib.hid hL
  clear hL
  go_upto_region 3 with (go_at_call 10; refine (lw_send0 H1.out ⟨#[120]⟩ (by simp)).mono ?_; rintro y w2 ⟨rfl, hL⟩)
  have H2 := Lib.hid (show Lw w w2 g true [⟨#[120]⟩] [] from hL)
  clear hL H1
  go_upto_region 4 with (go_at_call 8; refine (lw_come0 H2.out (by simp)).mono ?_; rintro y w3 ⟨rfl, hL⟩)
  have H3 := Lib.hid hL
  clear hL H2
  go_upto_region 5 with (go_at_call 8; refine (lw_comeno H3.out 1 rfl).mono ?_; rintro y w3 ⟨rfl, rfl⟩)
  go_wp2_with (go_at_call 11; refine (lw_up H3.out).mono ?_; rintro y w3 ⟨rfl, rfl⟩)
  go_ret
  exact ⟨rfl, H3.out.below⟩
/-- So many of the same. -/
def many (x : ByteArray) (k : Nat) : List ByteArray := List.replicate k x
theorem many_none (x : ByteArray) : many x 0 = [] := rfl
theorem many_len (x : ByteArray) (k : Nat) : (many x k).length = k := List.length_replicate
theorem many_one (x : ByteArray) (k : Nat) : many x k ++ [x] = many x (k + 1) := by unfold many; rw [List.replicate_succ']
end Go.Proofs.Ytiophmmcennjnaa
