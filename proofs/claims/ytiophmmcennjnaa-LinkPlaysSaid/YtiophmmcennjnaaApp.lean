/- Regions that append one element to a list and end in one write; with no program in sight. -/
import Derived.Test.YtiophmmcennjnaaLastOp
import Derived.Test.YtiophmmcennjnaaIns
namespace Go.Proofs.Ytiophmmcennjnaa
open Go.RowKit
set_option linter.unusedVariables false

section
variable {P : Program} {ops : Array Oper} {Q : Exit → Act → World → Prop}
/-- A region that draws its order and ends in one operation that waits for all others: those may make memory. -/
theorem wp_region_lastW {id : Nat} {a : Act} {w : World} (n : Nat) (I : (Nat → Bool) → Act → World → Prop) (hm : P.follows .mixedOrders = true) (hd : dag ops = true) (hc : covers ops n = true) (h0 : I (fun _ => false) a w.drew)
    (hs : ∀ i, i < n → ∀ L a w', I L a w' → L i = false → (∀ j ∈ afters ops i, L j = true) → wpOp P ops Q i (fun a' w'' => I (upd L i) a' w'') a w')
    (hl : ∀ L a w', I L a w' → (∀ i, i < n → L i = true) → wpOp P ops Q n (fun a' w'' => Q .normal a' w'') a w') : (Code.region id ops true).wp P Q a w := by
  unfold covers at hc
  rw [Bool.and_eq_true, beq_iff_eq, List.all_eq_true] at hc
  obtain ⟨hsz, hcov⟩ := hc
  have hall : ∀ L : Nat → Bool, (∀ i, L i = true → ∀ j ∈ afters ops i, L j = true) → (∀ j ∈ afters ops n, L j = true) → ∀ i, i < n → L i = true := fun L hdc hn i hi => by
    have := hcov i (List.mem_range.2 hi)
    exact reach_true hdc n _ hn i (by simpa using this)
  have hup : ∀ (L : Nat → Bool) (i : Nat), (∀ i, L i = true → ∀ j ∈ afters ops i, L j = true) → (∀ j ∈ afters ops i, L j = true) → ∀ k, upd L i k = true → ∀ j ∈ afters ops k, upd L i j = true := fun L i hdc ha k hk j hj => by
    have base : L j = true := by
      by_cases c : k = i
      · exact ha j (c ▸ hj)
      · unfold upd at hk
        rw [if_neg c] at hk
        exact hdc k hk j hj
    unfold upd
    split
    · rfl
    · exact base
  refine wp_region_inv (I := fun L a w' => (∀ i, L i = true → ∀ j ∈ afters ops i, L j = true) ∧ (L n = false → I L a w') ∧ (L n = true → Q .normal a w')) hm hd
    ⟨fun i h => Bool.noConfusion h, fun _ => h0, fun h => Bool.noConfusion h⟩ ?_ ?_
  · rintro i hi L a w' ⟨hdc, hA, hB⟩ hLi haft
    have hLn : L n = false ∨ L n = true := by cases L n <;> simp
    by_cases c : i = n
    · subst c
      have hI := hA hLi
      refine wpOp_mono (fun a' w' hq => ?_) (hl L a w' hI (hall L hdc haft))
      refine ⟨hup L i hdc haft, fun q => ?_, fun _ => hq⟩
      unfold upd at q
      rw [if_pos rfl] at q
      cases q
    · have hin : i < n := by omega
      rcases hLn with q | q
      · have hI := hA q
        refine wpOp_mono (fun a' w' hq => ?_) (hs i hin L a w' hI hLi haft)
        refine ⟨hup L i hdc haft, fun _ => hq, fun r => ?_⟩
        unfold upd at r
        rw [if_neg (fun e => c e.symm), q] at r
        cases r
      · have := hall L hdc (hdc n q) i hin
        rw [hLi] at this
        cases this
  · rintro L a w' ⟨hdc, hA, hB⟩ h
    exact hB (h n (by omega))
end
theorem grown_trans {a b c : World} {r : Option Nat} (h1 : a.grownBy b r) (h2 : b.grownBy c r) : a.grownBy c r :=
  ⟨h2.os.trans h1.os, h2.tape.trans h1.tape, h2.output.trans h1.output, Nat.le_trans h1.size h2.size, fun i hi hr => (h2.block i (Nat.lt_of_lt_of_le hi h1.size) hr).trans (h1.block i hi hr)⟩
theorem grown_next {a b c : World} {r : Option Nat} (h1 : a.grownBy b r) (h2 : Below b.heap.size b c) : a.grownBy c r :=
  ⟨h2.os.trans h1.os, h2.tape.trans h1.tape, h2.output.trans h1.output, Nat.le_trans h1.size h2.size, fun i hi hr => (h2.block i (Nat.lt_of_lt_of_le hi h1.size)).trans (h1.block i hi hr)⟩

/-- The world, while one element is appended. The bits: the one is made, it is appended. -/
structure ApW {α : Type} (w1 : World) (B : Nat) (e : TypeId) (size : Nat) (enc : α → List Value) (cur : Value) (l : List α) (x : α) (s r : Bool) (vS vR : Value) (w : World) : Prop where
  g : w1.grownBy w cur.ownBlock
  pc : r = false → Own w B e size enc cur l
  ps : s = true → r = false → Own w w1.heap.size e size enc vS [x]
  pr : r = true → Own w B e size enc vR (l ++ [x])
  pb : r = true → ∀ k, vR.ownBlock = some k → cur.ownBlock = some k ∨ w1.heap.size ≤ k
  o : r = true → s = true
  low : B ≤ w1.heap.size
section
variable {α : Type} {P : Program} {t e : TypeId} {size B : Nat} {enc : α → List Value} {w1 w w' : World} {cur vS vR : Value} {l : List α} {x : α} {s r : Bool}
theorem ApW.start (h : Own w1 B e size enc cur l) (hB : B ≤ w1.heap.size) : ApW w1 B e size enc cur l x false false vS vR w1.drew :=
  ⟨grown_next (World.grownBy.refl w1 _) (Below.refl _ _).drew, fun _ => h.drew, (fun q => Bool.noConfusion q), (fun q => Bool.noConfusion q), (fun q => Bool.noConfusion q), (fun q => Bool.noConfusion q), hB⟩
theorem ApW.next (h : ApW w1 B e size enc cur l x s r vS vR w) (hb : Below w.heap.size w w') : ApW w1 B e size enc cur l x s r vS vR w' :=
  ⟨grown_next h.g hb, fun q => (h.pc q).next hb, fun q q2 => (h.ps q q2).next hb, fun q => (h.pr q).next hb, h.pb, h.o, h.low⟩
theorem ApW.made (E : ElT P t e size enc) (h : ApW w1 B e size enc cur l x s r vS vR w) (hn : s = false) (arr : Array Value) (ha : arr.toList = enc x) : ApW w1 B e size enc cur l x true r (.slice (some ⟨w.heap.size, 0, none⟩) 1 1) vR (w.alloc (.cells arr e)) := by
  have hr : r = false := by cases c : r with | false => rfl | true => have := h.o c; rw [hn] at this; cases this
  subst hr
  refine ⟨grown_next h.g ((Below.refl _ _).alloc (Nat.le_refl _) _), fun q => (h.pc q).alloc _, fun _ _ => ?_, (fun q => Bool.noConfusion q), (fun q => Bool.noConfusion q), fun _ => rfl, h.low⟩
  have := Own.lit (e := e) (base := w1.heap.size) w h.g.size E.len [x] (by simp [maxLen])
  have e1 : (cellsL enc [x]).toArray = arr := by
    have : cellsL enc [x] = enc x := by simp [cellsL]
    rw [this, ← ha]
  rw [e1] at this
  exact this
theorem ApW.app (E : ElT P t e size enc) (h : ApW w1 B e size enc cur l x s r vS vR w) (hs : s = true) (hn : r = false) (hl : l.length ≤ 1000) (ty : TypeId) :
    ∃ v' w', (Builtin.append_ #[t, t] ty #[cur, vS]).run P w = .ok v' w' ∧ ApW w1 B e size enc cur l x true true vS v' w' := by
  obtain ⟨v', w', hr, ho, hg, hv⟩ := E.app (h.pc hn) (h.ps hs hn).src (by simp; omega) (Nat.le_trans h.low h.g.size) ty
  refine ⟨v', w', hr, ⟨grown_trans h.g hg, (fun q => Bool.noConfusion q), (fun _ q => Bool.noConfusion q), fun _ => ho, fun _ k hk => ?_, fun _ => rfl, h.low⟩⟩
  rcases hv with c | c
  · exact .inl (c ▸ hk)
  · rw [c] at hk
    injection hk with hk
    exact .inr (by have := h.g.size; omega)
end
end Go.Proofs.Ytiophmmcennjnaa
