/- Lists put together anew by appends, in whatever order their parts come up; no program in sight. -/
import Derived.Test.YtiophmmcennjnaaLst
import Derived.Test.YtiophmmcennjnaaBks
import Derived.Test.YtiophmmcennjnaaInv
namespace Go.Proofs.Ytiophmmcennjnaa
open Go.RowKit
set_option linter.unusedVariables false

/-- What is known of a slice's type t, of elements e. -/
structure ElT {α : Type} (P : Program) (t e : TypeId) (size : Nat) (enc : α → List Value) : Prop where
  ht : P.underlying t = some (.slice e)
  info : ∃ i z b, P.info? e = some i ∧ i.zero = some z ∧ i.size = size ∧ i.bytes = b ∧ z.cells.size = size ∧ b ≤ 1000
  pos : 0 < size
  len : ∀ x, (enc x).length = size
  one : ∀ x, ∀ u ∈ enc x, u.oneCell' = true

section
variable {α : Type} {P : Program} {t e : TypeId} {size : Nat} {enc : α → List Value} {w w' w0 : World} {base Z : Nat}
theorem ElT.app (E : ElT P t e size enc) {v sv : Value} {l news : List α} (h : Own w base e size enc v l) (hs : Src w enc sv news) (hl : l.length + news.length ≤ 2000) (hb : base ≤ w.heap.size) (ty : TypeId) :
    ∃ v' w', (Builtin.append_ #[t, t] ty #[v, sv]).run P w = .ok v' w' ∧ Own w' base e size enc v' (l ++ news) ∧ w.grownBy w' v.ownBlock ∧ (v'.ownBlock = v.ownBlock ∨ v'.ownBlock = some w.heap.size) := by
  obtain ⟨i, z, b, h1, h2, h3, h4, h5, h6⟩ := E.info
  exact h.app hs E.ht h1 h2 h3 h4 h5 E.pos E.len E.one (by unfold maxLen; omega) (by
    have : (l.length + news.length) * b ≤ 2000 * 1000 := Nat.mul_le_mul hl h6
    omega) hb
theorem grownBelow {a b : World} {row : Option Nat} {B : Nat} {w0 : World} (h0 : Below B w0 a) (h : a.grownBy b row) (hr : ∀ k, row = some k → B ≤ k) (hB : B ≤ a.heap.size) : Below B w0 b := h0.grown h hB hr

/-- A list in two parts and one between them: A, x, B. The bits: the first slice is made, the first append, the one is made, the second append, the last one. -/
structure InsW (e : TypeId) (size : Nat) (enc : α → List Value) (w0 : World) (A : List α) (x : α) (B : List α) (a0 a4 a6 a7 a11 : Bool) (v0 v4 v6 v7 v11 : Value) (w : World) : Prop where
  below : Below w0.heap.size w0 w
  p0 : a0 = true → a4 = false → Own w w0.heap.size e size enc v0 []
  p4 : a4 = true → a7 = false → Own w w0.heap.size e size enc v4 A
  p6 : a6 = true → a7 = false → Own w w0.heap.size e size enc v6 [x]
  n0 : a6 = true → a0 = true → a4 = false → ∀ g, v6.ownBlock = some g → v0.ownBlock ≠ some g
  n4 : a6 = true → a4 = true → a7 = false → ∀ g, v6.ownBlock = some g → v4.ownBlock ≠ some g
  p7 : a7 = true → a11 = false → Own w w0.heap.size e size enc v7 (A ++ [x])
  p11 : a11 = true → Own w w0.heap.size e size enc v11 (A ++ [x] ++ B)
  o4 : a4 = true → a0 = true
  o7 : a7 = true → a4 = true ∧ a6 = true
  o11 : a11 = true → a7 = true

variable {A B : List α} {x : α} {a0 a4 a6 a7 a11 : Bool} {v0 v4 v6 v7 v11 : Value}
theorem InsW.start (w : World) : InsW e size enc w A x B false false false false false v0 v4 v6 v7 v11 w.drew :=
  ⟨(Below.refl _ _).drew, (fun h => Bool.noConfusion h), (fun h => Bool.noConfusion h), (fun h => Bool.noConfusion h), (fun h => Bool.noConfusion h), (fun h => Bool.noConfusion h), (fun h => Bool.noConfusion h), (fun h => Bool.noConfusion h), (fun h => Bool.noConfusion h), (fun h => Bool.noConfusion h), (fun h => Bool.noConfusion h)⟩

theorem InsW.make0 (h : InsW e size enc w0 A x B a0 a4 a6 a7 a11 v0 v4 v6 v7 v11 w) (hn : a0 = false) : InsW e size enc w0 A x B true a4 a6 a7 a11 (.slice (some ⟨w.heap.size, 0, none⟩) 0 0) v4 v6 v7 v11 (w.alloc (.cells #[] e)) := by
  have h4 : a4 = false := by cases c : a4 with | false => rfl | true => have := h.o4 c; rw [hn] at this; cases this
  have h7 : a7 = false := by cases c : a7 with | false => rfl | true => have := (h.o7 c).1; rw [h4] at this; cases this
  have h11 : a11 = false := by cases c : a11 with | false => rfl | true => have := h.o11 c; rw [h7] at this; cases this
  subst h4 h7 h11
  refine ⟨h.below.alloc h.below.size _, fun _ _ => Own.made w h.below.size enc, fun q => (by cases q), fun q r => (h.p6 q r).alloc _, fun q _ _ g hg => ?_, fun _ q => (by cases q), fun q => (by cases q), fun q => (by cases q), fun _ => rfl, fun q => (by cases q), fun q => (by cases q)⟩
  have := ((h.p6 q rfl).lt g hg).2
  intro e
  simp [Value.ownBlock] at e
  omega
theorem InsW.make6 (E : ElT P t e size enc) (h : InsW e size enc w0 A x B a0 a4 a6 a7 a11 v0 v4 v6 v7 v11 w) (hn : a6 = false) (arr : Array Value) (ha : arr.toList = enc x) : InsW e size enc w0 A x B a0 a4 true a7 a11 v0 v4 (.slice (some ⟨w.heap.size, 0, none⟩) 1 1) v7 v11 (w.alloc (.cells arr e)) := by
  have h7 : a7 = false := by cases c : a7 with | false => rfl | true => have := (h.o7 c).2; rw [hn] at this; cases this
  have h11 : a11 = false := by cases c : a11 with | false => rfl | true => have := h.o11 c; rw [h7] at this; cases this
  subst h7 h11
  refine ⟨h.below.alloc h.below.size _, fun q r => (h.p0 q r).alloc _, fun q r => (h.p4 q r).alloc _, fun _ _ => ?_, fun _ q r g hg => ?_, fun _ q r g hg => ?_, fun q => (by cases q), fun q => (by cases q), h.o4, fun q => (by cases q), fun q => (by cases q)⟩
  · have := Own.lit (e := e) (base := w0.heap.size) w h.below.size E.len [x] (by simp [maxLen])
    have e1 : (cellsL enc [x]).toArray = arr := by
      have : cellsL enc [x] = enc x := by simp [cellsL]
      rw [this, ← ha]
    rw [e1] at this
    exact this
  · have := (h.p0 q r).lt
    intro c
    have := (this g c).2
    simp [Value.ownBlock] at hg
    omega
  · have := (h.p4 q r).lt
    intro c
    have := (this g c).2
    simp [Value.ownBlock] at hg
    omega
theorem InsW.app4 (E : ElT P t e size enc) (h : InsW e size enc w0 A x B a0 a4 a6 a7 a11 v0 v4 v6 v7 v11 w) (h0 : a0 = true) (hn : a4 = false) {sv : Value} (hs : Src w enc sv A) (hl : A.length ≤ 1000) (ty : TypeId) :
    ∃ v' w', (Builtin.append_ #[t, t] ty #[v0, sv]).run P w = .ok v' w' ∧ InsW e size enc w0 A x B a0 true a6 a7 a11 v0 v' v6 v7 v11 w' := by
  have h7 : a7 = false := by cases c : a7 with | false => rfl | true => have := (h.o7 c).1; rw [hn] at this; cases this
  have h11 : a11 = false := by cases c : a11 with | false => rfl | true => have := h.o11 c; rw [h7] at this; cases this
  subst h7 h11
  obtain ⟨v', w', hr, ho, hg, hv⟩ := E.app (h.p0 h0 hn) hs (by simp; omega) h.below.size ty
  refine ⟨v', w', hr, ⟨grownBelow h.below hg (fun k e => ((h.p0 h0 hn).lt k e).1) h.below.size, fun _ q => (by cases q), fun _ _ => ho, fun q r => ?_, fun _ _ q => (by cases q), fun q _ r g hg6 => ?_, fun q => (by cases q), fun q => (by cases q), fun _ => h0, fun q => (by cases q), fun q => (by cases q)⟩⟩
  · refine (h.p6 q r).kept hg ?_
    cases c : v6.ownBlock with
    | none => exact .inl rfl
    | some g => exact .inr (fun e => h.n0 q h0 hn g c e.symm)
  · rcases hv with c | c
    · rw [c]; exact h.n0 q h0 hn g hg6
    · rw [c]
      intro e
      have := ((h.p6 q r).lt g hg6).2
      injection e with e
      omega
theorem InsW.app7 (E : ElT P t e size enc) (h : InsW e size enc w0 A x B a0 a4 a6 a7 a11 v0 v4 v6 v7 v11 w) (h4 : a4 = true) (h6 : a6 = true) (hn : a7 = false) (hl : A.length ≤ 1000) (ty : TypeId) :
    ∃ v' w', (Builtin.append_ #[t, t] ty #[v4, v6]).run P w = .ok v' w' ∧ InsW e size enc w0 A x B a0 a4 a6 true a11 v0 v4 v6 v' v11 w' := by
  have h11 : a11 = false := by cases c : a11 with | false => rfl | true => have := h.o11 c; rw [hn] at this; cases this
  subst h11
  obtain ⟨v', w', hr, ho, hg, hv⟩ := E.app (h.p4 h4 hn) (h.p6 h6 hn).src (by simp; omega) h.below.size ty
  exact ⟨v', w', hr, ⟨grownBelow h.below hg (fun k e => ((h.p4 h4 hn).lt k e).1) h.below.size, fun _ q => (by rw [h4] at q; cases q), fun _ q => (by cases q), fun _ q => (by cases q), fun _ _ q => (by rw [h4] at q; cases q), fun _ _ q => (by cases q), fun _ _ => ho, fun q => (by cases q), h.o4, fun _ => ⟨h4, h6⟩, fun q => (by cases q)⟩⟩
theorem InsW.app11 (E : ElT P t e size enc) (h : InsW e size enc w0 A x B a0 a4 a6 a7 a11 v0 v4 v6 v7 v11 w) (h7 : a7 = true) (hn : a11 = false) {sv : Value} (hs : Src w enc sv B) (hl : A.length + B.length ≤ 1000) (ty : TypeId) :
    ∃ v' w', (Builtin.append_ #[t, t] ty #[v7, sv]).run P w = .ok v' w' ∧ InsW e size enc w0 A x B a0 a4 a6 a7 true v0 v4 v6 v7 v' w' := by
  obtain ⟨h4, h6⟩ := h.o7 h7
  obtain ⟨v', w', hr, ho, hg, hv⟩ := E.app (h.p7 h7 hn) hs (by simp; omega) h.below.size ty
  exact ⟨v', w', hr, ⟨grownBelow h.below hg (fun k e => ((h.p7 h7 hn).lt k e).1) h.below.size, fun _ q => (by rw [h4] at q; cases q), fun _ q => (by rw [h7] at q; cases q), fun _ q => (by rw [h7] at q; cases q), fun _ _ q => (by rw [h4] at q; cases q), fun _ _ q => (by rw [h7] at q; cases q), fun _ q => (by cases q), fun _ => ho, h.o4, h.o7, fun _ => h7⟩⟩
end
end Go.Proofs.Ytiophmmcennjnaa
