/- The first line of each statement of layer 6. -/
import Derived.Test.YtkohnleeiajiiaaBest
namespace Go.Proofs.Ytkohnleeiajiiaa
open Go.RowKit

abbrev sv1 : Vc := ⟨1, 5, 2, 1⟩
abbrev sv2 : Vc := ⟨1, 5, 2, 3⟩

/-- Both of them in memory. -/
structure SvC (w0 : World) (g1 g2 : Nat) (w : World) : Prop where
  below : Below w0.heap.size w0 w
  x : VcAt w g1 0 sv1
  y : VcAt w g2 0 sv2
  l1 : g1 < w.heap.size
  l2 : g2 < w.heap.size

theorem SvC.next {w0 w w' : World} {g1 g2 : Nat} (h : SvC w0 g1 g2 w) (hb : Below w.heap.size w w') : SvC w0 g1 g2 w' :=
  ⟨h.below.trans (hb.mono h.below.size), h.x.below hb h.l1, h.y.below hb h.l2, Nat.lt_of_lt_of_le h.l1 hb.size, Nat.lt_of_lt_of_le h.l2 hb.size⟩

theorem VRow.pair (w : World) (x y : Vc) (t : TypeId) : VRow (w.alloc (Obj.cells #[.int .u64 (x.r : Nat), .int .u32 (x.c : Nat), .int .u64 (x.b : Nat), .int .u16 (x.p : Nat), .int .u64 (y.r : Nat), .int .u32 (y.c : Nat), .int .u64 (y.b : Nat), .int .u16 (y.p : Nat)] t)) w.heap.size [x, y] := by
  intro i hi
  match i, hi with
  | 0, _ => exact ⟨by simp, by simp, by simp, by simp⟩
  | 1, _ => exact ⟨by simp, by simp, by simp, by simp⟩

set_option maxRecDepth 100000 in
set_option maxHeartbeats 4000000 in
theorem speaks6_any (w : World) : Calls Try.prog 19 #[] w fun e w' => e = .returned (.bool true) ∧ Below w.heap.size w w' := by
  obtain ⟨W, hW⟩ : ∃ W, W = (w.alloc (Obj.cells (vcA sv1) 60)).alloc (Obj.cells (vcA sv2) 60) := ⟨_, rfl⟩
  have h0 : SvC w w.heap.size (w.heap.size + 1) W := by
    rw [hW]
    refine ⟨((Below.refl _ _).alloc (Nat.le_refl _) _).alloc (by simp) _, ⟨by simp, by simp, by simp, by simp⟩, ⟨by simp, by simp, by simp, by simp⟩, by simp; omega, by simp⟩
  have HW := Lib.hid hW
  clear hW
  go_enter Try.func19, Try.ntmps19
  go_wp2_with (fail)
  refine (better_any sv1 sv2 _).mono ?_
  rintro e w1 ⟨rfl, hb1⟩
  have hb1' : Below W.heap.size W w1 := by rw [HW.out]; exact hb1
  have h1 := h0.next hb1'
  clear hb1 hb1' h0 HW
  generalize w.heap.size + 1 = g2 at *
  have H0 := h1
  obtain ⟨hB, ⟨c0, c1, c2, c3⟩, ⟨d0, d1, d2, d3⟩, -, -⟩ := h1
  rw [show lessV sv1 sv2 = true from rfl]
  go_wp2_with fail
  refine (better_any sv2 sv1 _).mono ?_
  rintro e w2 ⟨rfl, hb1⟩
  have h1 := H0.next hb1
  clear hb1 H0 c0 c1 c2 c3 d0 d1 d2 d3 hB
  have H0 := h1
  obtain ⟨hB, ⟨c0, c1, c2, c3⟩, ⟨d0, d1, d2, d3⟩, -, -⟩ := h1
  rw [show lessV sv2 sv1 = false from rfl]
  go_wp2_with fail
  refine (plus_any sv1 7 _ (by decide) (by decide)).mono ?_
  rintro e w3 ⟨rfl, hb1⟩
  have h1 := H0.next hb1
  clear hb1 H0 c0 c1 c2 c3 d0 d1 d2 d3 hB
  have H0 := h1
  obtain ⟨hB, ⟨c0, c1, c2, c3⟩, ⟨d0, d1, d2, d3⟩, -, -⟩ := h1
  rw [show vcV (plusV sv1 7) = .agg #[.int .u64 1, .int .u32 12, .int .u64 2, .int .u16 1] from rfl]
  have hf : ∀ W, (Instr.field 60 (.agg #[.int .u64 1, .int .u32 12, .int .u64 2, .int .u16 1]) 1).run Try.prog W = .ok (.int .u32 12) W := fun _ => by kernel_rfl
  go_wp2_with fail
  refine (best_any w3.heap.size 2 [sv2, sv1] _ (VRow.pair w3 sv2 sv1 60) (by simp) (by simp)).mono ?_
  rintro e w4 ⟨rfl, hb1⟩
  have hE := hB.trans ((((Below.refl w3.heap.size w3).alloc (Nat.le_refl _) _).trans (hb1.mono (by simp))).mono hB.size)
  rw [show bestN [sv2, sv1] [sv2, sv1].length = 1 from rfl]
  clear hb1
  go_wp2_with fail
  go_ret
  exact ⟨rfl, hE⟩
end Go.Proofs.Ytkohnleeiajiiaa
