/- A slice of structs that came in, as a list. No program in sight. -/
import Derived.Deep.Slices
import Derived.OpenShut
import Derived.Below
import Derived.WalkKit
import Derived.ProofKit
namespace Go.Proofs.Ytiophmmcennjnaa
open Go.ChangeShapes Go.WideShapes Go.RowKit Go.Deep

/-- The structs of a slice that came in, by their cells. -/
def RowsAt {α : Type} (w : World) (A : Option Addr) (size : Nat) (enc : α → List Value) (l : List α) : Prop :=
  l = [] ∨ ∃ b off, A = some ⟨b, off, none⟩ ∧ b < w.heap.size ∧ ∀ (i : Nat) (x : α), l[i]? = some x → ∀ (j : Nat) (u : Value), (enc x)[j]? = some u → w.cell? ⟨b, off + (i * size + j), none⟩ = some u

theorem cell_spot {w : World} {x : Addr} {u : Value} (h : w.cell? x = some u) : x.spot = none ∧ x.block < w.heap.size := by
  unfold World.cell? at h
  split at h
  · rename_i hb
    refine ⟨?_, (Array.getElem?_eq_some_iff.1 hb).1⟩
    split at h
    · simp at h
    · rename_i hs; simpa using hs
  · simp at h

theorem add_none (b o n : Nat) : (⟨b, o, none⟩ : Addr).add n = ⟨b, o + n, none⟩ := by
  unfold Addr.add
  split <;> simp_all

theorem RowsAt.same {α : Type} {w w' : World} {A : Option Addr} {size : Nat} {enc : α → List Value} {l : List α} (h : RowsAt w A size enc l) (hb : Below w.heap.size w w') : RowsAt w' A size enc l := by
  rcases h with rfl | ⟨b, off, rfl, hlt, h⟩
  · exact .inl rfl
  · refine .inr ⟨b, off, rfl, Nat.lt_of_lt_of_le hlt hb.size, fun i x hx j u hu => ?_⟩
    have e := hb.block b hlt
    have := h i x hx j u hu
    unfold World.cell? at this ⊢
    rw [e]
    exact this

theorem open_rows {P : Program} {H : Type} {en : TypeId × Value → H} {w : World} {base : Nat} {spare : Nat → Bool} {held : Bool} {t e : TypeId} {size : Nat} {α : Type} {a : Option Addr} {len cap : Nat} {d : DataW H} {p : List MemPlace}
    (enc : α → List Value) (ok : α → Prop) (ht : P.underlying t = some (.slice e)) (hc : P.cellsOf e = size) (hs : 0 < size) (henc : ∀ x, (enc x).length = size)
    (each : ∀ (fuel : Nat) (cs : List Value) (y : DataW H × List MemPlace), cs.length = size → DataW.trod en P w base spare held fuel e cs = some y → ∃ x : α, cs = enc x ∧ ok x)
    (h : DataW.Trod en P w base spare held t (.slice a len cap) d p) :
    ∃ l : List α, l.length = len ∧ RowsAt w a size enc l ∧ (∀ x ∈ l, ok x) ∧ (len ≤ cap ∧ cap ≤ maxLen) ∧ (a = none → len = 0 ∧ cap = 0) := by
  obtain ⟨fuel, hf⟩ := h
  rcases open_slice ht hf with ⟨hcs, -⟩ | ⟨x, len', cap', m, n, D, Pl, hcs, -, hl, hm, hmm, -, hi⟩
  · simp [Value.cells] at hcs
    obtain ⟨rfl, rfl, rfl⟩ := hcs
    exact ⟨[], rfl, .inl rfl, by simp, ⟨Nat.le_refl _, Nat.zero_le _⟩, fun _ => ⟨rfl, rfl⟩⟩
  · simp [Value.cells] at hcs
    obtain ⟨rfl, rfl, rfl⟩ := hcs
    have hlm : len ≤ m := by rw [hmm]; split <;> omega
    rw [hc] at hi
    have key : ∀ i : Fin len, ∃ v : α, ok v ∧ ∀ (j : Nat) (u : Value), (enc v)[j]? = some u → w.cell? ((x.add (i * size)).add j) = some u := by
      intro ⟨i, hil⟩
      obtain ⟨cs', hcell, htr⟩ := hi i (by omega)
      obtain ⟨_, hcl, hat⟩ := World.cells?_some hcell
      obtain ⟨v, rfl, hok⟩ := each _ _ _ hcl htr
      refine ⟨v, hok, fun j u hu => ?_⟩
      have hj : j < size := by rw [← henc v]; exact (List.getElem?_eq_some_iff.1 hu).1
      have := hat j (by omega)
      rw [this]
      simpa [List.getElem?_eq_some_iff] using hu
    let f : Fin len → α := fun i => Classical.choose (key i)
    have fs : ∀ i, ok (f i) ∧ ∀ (j : Nat) (u : Value), (enc (f i))[j]? = some u → w.cell? ((x.add (i * size)).add j) = some u := fun i => Classical.choose_spec (key i)
    refine ⟨List.ofFn f, by simp, ?_, ?_, ⟨hl, hm⟩, by simp⟩
    · rcases Nat.eq_zero_or_pos len with h0 | h0
      · subst h0; exact .inl (by simp)
      · have hx : x.spot = none ∧ x.block < w.heap.size := by
          have h1 : 0 < (enc (f ⟨0, h0⟩)).length := by rw [henc]; exact hs
          have := (fs ⟨0, h0⟩).2 0 _ (List.getElem?_eq_getElem h1)
          have q := cell_spot this
          simpa [Addr.add] using q
        obtain ⟨b, o, sp⟩ := x
        obtain ⟨h1, h2⟩ := hx
        simp only at h1 h2
        subst h1
        refine .inr ⟨b, o, rfl, h2, fun i v hv j u hu => ?_⟩
        obtain ⟨hil, rfl⟩ := List.getElem?_eq_some_iff.1 hv
        rw [List.length_ofFn] at hil
        rw [List.getElem_ofFn] at hu
        have := (fs ⟨i, hil⟩).2 j u hu
        rw [add_none, add_none, Nat.add_assoc] at this
        exact this
    · intro v hv
      obtain ⟨i, rfl⟩ := List.mem_ofFn.1 hv
      exact (fs i).1
end Go.Proofs.Ytiophmmcennjnaa
