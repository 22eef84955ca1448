/- How lists of sections that came in are opened; the walks over them as they come in. -/
import Derived.Test.YtmbafeemiclmeaaTv11
import Derived.Test.YtmbafeemiclmeaaOpenS
import Derived.Test.YtmbafeemiclmeaaLits
import Derived.Deep.Slices
namespace Go.Proofs.Ytmbafeemiclmeaa
open Go.RowKit Go.Deep Go.ChangeShapes Go.WideShapes Go.ChangeAt
set_option linter.unusedVariables false

theorem u8_of {a : Int} (h : (Lit.int .u8 a).wf = true) : ∃ b : UInt8, a = (b.toNat : Int) := by
  obtain ⟨n, rfl, hn⟩ := nat_of_u8 h
  exact ⟨UInt8.ofNat n, by rw [UInt8.toNat_ofNat']; rw [Nat.mod_eq_of_lt (show n < 2 ^ 8 by omega)]⟩
theorem open_row53 {H : Type} {enc : TypeId × Value → H} {w : World} {base : Nat} {spare : Nat → Bool} {held : Bool} {a : Option Addr} {len cap : Nat} {d : DataW H} {p : List MemPlace}
    (h : DataW.Trod enc Try.prog w base spare held 22 (.slice a len cap) d p) : ∃ l, IsArg53 w a len cap l := by
  obtain ⟨fuel, hf⟩ := h
  rcases open_slice Try.underlying22 hf with ⟨hcs, -⟩ | ⟨x, len', cap', m, n, D, Pl, hcs, -, hl, hm, hmm, -, hi⟩
  · simp [Value.cells] at hcs
    obtain ⟨rfl, rfl, rfl⟩ := hcs
    exact ⟨[], rfl, Nat.le_refl _, by unfold maxLen; omega, (fun _ h => by cases h), .inl ⟨rfl, rfl⟩⟩
  · simp [Value.cells] at hcs
    obtain ⟨rfl, rfl, rfl⟩ := hcs
    have hlm : len ≤ m := by rw [hmm]; split <;> omega
    have key : ∀ i, i < len → ∃ v : Sec, w.cell? (x.add (i * 2)) = some (bv v.k) ∧ w.cell? ⟨(x.add (i * 2)).block, (x.add (i * 2)).off + 1, none⟩ = some (.string v.d) ∧ v.d.size ≤ maxLen := by
      intro i hil
      obtain ⟨cs', hc, ht⟩ := hi i (by omega)
      rw [cellsS53] at hc
      obtain ⟨_, hcl, hat⟩ := World.cells?_some hc
      obtain ⟨k, e, hv, w0, w1⟩ := cells_s53 (cs := ⟨cs'⟩) hcl ht
      have hv' : cs' = [.int .u8 k, .string e] := by simpa using congrArg Array.toList hv
      subst hv'
      obtain ⟨k, rfl⟩ := u8_of w0
      have h0 := hat 0 (by omega)
      have h1 := hat 1 (by omega)
      rw [show (x.add (i * 2)).add 0 = x.add (i * 2) by unfold Addr.add; simp] at h0
      rw [show (x.add (i * 2)).add 1 = ⟨(x.add (i * 2)).block, (x.add (i * 2)).off + 1, none⟩ by unfold Addr.add; rw [if_neg (by omega)]] at h1
      exact ⟨⟨k, e⟩, h0, h1, w1⟩
    refine ⟨(List.range len).map fun i => if hh : i < len then Classical.choose (key i hh) else ⟨0, ⟨#[]⟩⟩, by simp, hl, hm, ?_, .inr ⟨x, rfl, fun i y hy => ?_⟩⟩
    · intro y hy
      obtain ⟨i, hi2, rfl⟩ := List.mem_map.1 hy
      have hil : i < len := by simpa using hi2
      rw [dif_pos hil]
      exact (Classical.choose_spec (key i hil)).2.2
    · obtain ⟨hil, rfl⟩ := List.getElem?_eq_some_iff.1 hy
      have hil2 : i < len := by simpa using hil
      have e : ((List.range len).map fun i => if hh : i < len then Classical.choose (key i hh) else ⟨0, ⟨#[]⟩⟩)[i] = Classical.choose (key i hil2) := by
        simp [hil2]
      rw [e]
      exact ⟨(Classical.choose_spec (key i hil2)).1, (Classical.choose_spec (key i hil2)).2.1⟩
theorem builds_law (v : Int) (a : Option Addr) (len cap : Nat) (l : List Sec) (w : World) (hv : (Lit.int .u8 v).wf = true) (h : IsArg53 w a len cap l) : Calls Try.prog 3 #[.int .u8 v, .slice a len cap] w fun e w' => e = .returned (.bool true) ∧ Below w.heap.size w w' := by
  obtain ⟨b, rfl⟩ := u8_of hv
  exact builds_walk b w h
end Go.Proofs.Ytmbafeemiclmeaa
