/- VectorBest of a list of vectors that came in. -/
import Derived.Test.YtkohnleeiajiiaaVBest
import Derived.Test.YtkohnleeiajiiaaBetterLaw
import Derived.Test.YtkohnleeiajiiaaOpenS
import Derived.Deep.Slices
namespace Go.Proofs.Ytkohnleeiajiiaa
open Go.RowKit Go.Deep

def IsArg57 (w : World) (a : Option Addr) (len cap : Nat) (l : List Vc) : Prop := IsVRow w a len l ∧ cap ≤ maxLen ∧ len ≤ cap

theorem add_succ' (x : Addr) (j : Nat) : x.add (j + 1) = ⟨x.block, x.off + (j + 1), none⟩ := by unfold Addr.add; rw [if_neg (by omega)]

theorem open_row57 {H : Type} {enc : TypeId × Value → H} {w : World} {base : Nat} {spare : Nat → Bool} {held : Bool} {a : Option Addr} {len cap : Nat} {d : DataW H} {p : List MemPlace}
    (h : DataW.Trod enc Try.prog w base spare held 67 (.slice a len cap) d p) : ∃ l, IsArg57 w a len cap l := by
  obtain ⟨fuel, hf⟩ := h
  rcases open_slice Try.underlying67 hf with ⟨hcs, -⟩ | ⟨x, len', cap', m, n, D, Pl, hcs, -, hl, hm, hmm, -, hi⟩
  · simp [Value.cells] at hcs
    obtain ⟨rfl, rfl, rfl⟩ := hcs
    exact ⟨[], ⟨rfl, .inl ⟨rfl, rfl⟩⟩, by unfold maxLen; omega, Nat.le_refl _⟩
  · simp [Value.cells] at hcs
    obtain ⟨rfl, rfl, rfl⟩ := hcs
    have hlm : len ≤ m := by rw [hmm]; split <;> omega
    have key : ∀ i, i < len → ∃ v : Vc, w.cell? (x.add (i * 4)) = some (.int .u64 (v.r : Nat)) ∧ w.cell? ⟨(x.add (i * 4)).block, (x.add (i * 4)).off + 1, none⟩ = some (.int .u32 (v.c : Nat)) ∧ w.cell? ⟨(x.add (i * 4)).block, (x.add (i * 4)).off + 2, none⟩ = some (.int .u64 (v.b : Nat)) ∧ w.cell? ⟨(x.add (i * 4)).block, (x.add (i * 4)).off + 3, none⟩ = some (.int .u16 (v.p : Nat)) := by
      intro i hil
      obtain ⟨cs', hc, ht⟩ := hi i (by omega)
      rw [cellsS57] at hc
      obtain ⟨_, hcl, hat⟩ := World.cells?_some hc
      obtain ⟨r, c, b, q, hv, w0, w1, w2, w3⟩ := cells_s57 (cs := ⟨cs'⟩) hcl ht
      have hv' : cs' = [.int .u64 r, .int .u32 c, .int .u64 b, .int .u16 q] := by simpa using congrArg Array.toList hv
      subst hv'
      obtain ⟨r, rfl, -⟩ := nat_of_u64 w0
      obtain ⟨c, rfl, -⟩ := nat_of_u32 w1
      obtain ⟨b, rfl, -⟩ := nat_of_u64 w2
      obtain ⟨q, rfl, -⟩ := nat_of_u16 w3
      have h0 := hat 0 (by omega)
      have h1 := hat 1 (by omega)
      have h2 := hat 2 (by omega)
      have h3 := hat 3 (by omega)
      rw [show (x.add (i * 4)).add 0 = x.add (i * 4) by unfold Addr.add; simp] at h0
      rw [add_succ'] at h1 h2 h3
      exact ⟨⟨r, c, b, q⟩, h0, h1, h2, h3⟩
    refine ⟨(List.range len).map fun i => if hh : i < len then Classical.choose (key i hh) else default, ⟨by simp, .inr ⟨x, rfl, fun i hil => ?_⟩⟩, hm, hl⟩
    have e : ((List.range len).map fun i => if hh : i < len then Classical.choose (key i hh) else default)[i]! = Classical.choose (key i hil) := by
      rw [getElem!_pos _ i (by simpa using hil)]
      simp [hil]
    rw [e]
    exact Classical.choose_spec (key i hil)

theorem vbest_law (a : Option Addr) (len cap : Nat) (l : List Vc) (w : World) (h : IsArg57 w a len cap l) : Calls Try.prog 7 #[.slice a len cap] w fun e w' => e = .returned (.bool true) ∧ Below w.heap.size w w' :=
  best_walk a len cap l w h.1 h.2.1 h.2.2
end Go.Proofs.Ytkohnleeiajiiaa
