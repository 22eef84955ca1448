/- PortsHold, PortsOf of what came in. -/
import Derived.Test.YtjipbdljljhijaaHold
import Derived.Test.YtjipbdljljhijaaPof
import Derived.Test.YtjipbdljljhijaaLits
namespace Go.Proofs.Ytjipbdljljhijaa
open Go.RowKit

theorem hold_law (s t p : Int) (w : World) (h0 : (Lit.int .u32 s).wf = true) (h1 : (Lit.int .u32 t).wf = true) (_ : (Lit.int .i64 p).wf = true) :
    Calls Try.prog 3 #[.int .u32 s, .int .u32 t, .int .i64 p] w fun e w' => e = .returned (.bool true) ∧ Below w.heap.size w w' := by
  obtain ⟨s, rfl, ls⟩ := nat_of_u32 h0
  obtain ⟨t, rfl, lt⟩ := nat_of_u32 h1
  exact hold_walk s t p w ls lt speaks7_any

theorem ints_of_row {w : World} {A : Option Addr} {len cap : Nat} {zs : List Int} (h : IsRow .i64 w A len cap zs) :
    IntsAt w A (zs.take len) ∧ (zs.take len).length = len ∧ (len ≤ cap ∧ cap ≤ maxLen) ∧ (A = none → len = 0 ∧ cap = 0) := by
  rcases h with ⟨rfl, rfl, rfl, rfl⟩ | ⟨x, rfl, hl, hm, hz, hc, _⟩
  · exact ⟨.inl rfl, rfl, ⟨Nat.le_refl _, Nat.zero_le _⟩, fun _ => ⟨rfl, rfl⟩⟩
  · refine ⟨?_, by simp [List.length_take]; omega, ⟨hl, hm⟩, by simp⟩
    by_cases h0 : zs.length = 0
    · left; simp [List.eq_nil_of_length_eq_zero h0]
    · right
      have hx : x.spot = none := by
        have := hc 0 (by omega)
        unfold World.cell? at this
        split at this
        · split at this
          · simp at this
          · rename_i h; simpa [Addr.add] using h
        · simp at this
      obtain ⟨b, o, sp⟩ := x
      obtain rfl : sp = none := hx
      refine ⟨b, o, rfl, fun j z hj => ?_⟩
      rw [List.getElem?_take] at hj
      split at hj
      · have hlt : j < zs.length := (List.getElem?_eq_some_iff.mp hj).1
        have := hc j hlt
        rw [List.getD_eq_getElem?_getD, hj] at this
        have e : ((⟨b, o, none⟩ : Addr).add j) = ⟨b, o + j, none⟩ := by
          unfold Addr.add; split <;> simp_all
        rw [e] at this
        exact this
      · simp at hj

theorem of_law (A : Option Addr) (len cap : Nat) (zs : List Int) (w : World) (h : IsRow .i64 w A len cap zs) :
    Calls Try.prog 4 #[.slice A len cap] w fun e w' => e = .returned (.bool true) ∧ Below w.heap.size w w' := by
  obtain ⟨h1, h2, h3, h4⟩ := ints_of_row h
  exact of_walk A len cap (zs.take len) w h1 h2 h3 h4
end Go.Proofs.Ytjipbdljljhijaa
