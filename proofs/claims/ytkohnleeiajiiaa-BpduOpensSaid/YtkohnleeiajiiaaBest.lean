/- The best of some vectors. -/
import Derived.Test.YtkohnleeiajiiaaVec
import Derived.Test.YtkohnleeiajiiaaQuietly
set_option linter.unusedSimpArgs false
namespace Go.Proofs.Ytkohnleeiajiiaa
open Go.RowKit

instance : Inhabited Vc := ⟨⟨0, 0, 0, 0⟩⟩

/-- Block g has these vectors from its start on. -/
def VRow (w : World) (g : Nat) (l : List Vc) : Prop := ∀ i, i < l.length → w.cell? ⟨g, i * 4, none⟩ = some (.int .u64 (l[i]!.r : Nat)) ∧ w.cell? ⟨g, i * 4 + 1, none⟩ = some (.int .u32 (l[i]!.c : Nat)) ∧ w.cell? ⟨g, i * 4 + 2, none⟩ = some (.int .u64 (l[i]!.b : Nat)) ∧ w.cell? ⟨g, i * 4 + 3, none⟩ = some (.int .u16 (l[i]!.p : Nat))

theorem VRow.below {w w' : World} {B g : Nat} {l : List Vc} (h : VRow w g l) (hb : Below B w w') (hg : g < B) : VRow w' g l := by
  intro i hi
  obtain ⟨h0, h1, h2, h3⟩ := h i hi
  exact ⟨by rw [hb.cell (p := ⟨g, i * 4, none⟩) hg, h0], by rw [hb.cell (p := ⟨g, i * 4 + 1, none⟩) hg, h1], by rw [hb.cell (p := ⟨g, i * 4 + 2, none⟩) hg, h2], by rw [hb.cell (p := ⟨g, i * 4 + 3, none⟩) hg, h3]⟩

/-- A vector at a place of a block. -/
structure VcAt (w : World) (g o : Nat) (x : Vc) : Prop where
  c0 : w.cell? ⟨g, o, none⟩ = some (.int .u64 (x.r : Nat))
  c1 : w.cell? ⟨g, o + 1, none⟩ = some (.int .u32 (x.c : Nat))
  c2 : w.cell? ⟨g, o + 2, none⟩ = some (.int .u64 (x.b : Nat))
  c3 : w.cell? ⟨g, o + 3, none⟩ = some (.int .u16 (x.p : Nat))

theorem VcAt.all {w : World} {g o : Nat} {x : Vc} (h : VcAt w g o x) : w.cell? ⟨g, o, none⟩ = some (.int .u64 (x.r : Nat)) ∧ w.cell? ⟨g, o + 1, none⟩ = some (.int .u32 (x.c : Nat)) ∧ w.cell? ⟨g, o + 2, none⟩ = some (.int .u64 (x.b : Nat)) ∧ w.cell? ⟨g, o + 3, none⟩ = some (.int .u16 (x.p : Nat)) := ⟨h.c0, h.c1, h.c2, h.c3⟩
theorem VcAt.drew {w : World} {g o : Nat} {x : Vc} (h : VcAt w g o x) : VcAt w.drew g o x := ⟨by simpa using h.c0, by simpa using h.c1, by simpa using h.c2, by simpa using h.c3⟩
theorem VcAt.below {w w' : World} {B g o : Nat} {x : Vc} (h : VcAt w g o x) (hb : Below B w w') (hg : g < B) : VcAt w' g o x :=
  ⟨by rw [hb.cell (p := ⟨g, o, none⟩) hg, h.c0], by rw [hb.cell (p := ⟨g, o + 1, none⟩) hg, h.c1], by rw [hb.cell (p := ⟨g, o + 2, none⟩) hg, h.c2], by rw [hb.cell (p := ⟨g, o + 3, none⟩) hg, h.c3]⟩

/-- What stays while the two are held against each other. -/
structure BestC (w0 w1 : World) (gl g b : Nat) (x y : Vc) (w : World) : Prop where
  below : Below w0.heap.size w0 w
  from1 : Below w1.heap.size w1 w
  x : VcAt w gl 0 x
  y : VcAt w g (b * 4) y

theorem BestC.next {w0 w1 w w' : World} {gl g b : Nat} {x y : Vc} (h : BestC w0 w1 gl g b x y w) (hb : Below w.heap.size w w') (h1 : g < w1.heap.size) (h2 : gl < w1.heap.size) : BestC w0 w1 gl g b x y w' :=
  ⟨h.below.trans (hb.mono h.below.size), h.from1.trans (hb.mono h.from1.size), h.x.below hb (Nat.lt_of_lt_of_le h2 h.from1.size), h.y.below hb (Nat.lt_of_lt_of_le h1 h.from1.size)⟩

/-- The place of the first of the first k than which none is better. -/
def bestN (l : List Vc) : Nat → Int
  | 0 => -1
  | k + 1 => if bestN l k < 0 ∨ lessV l[k]! l[(bestN l k).toNat]! = true then (k : Int) else bestN l k

theorem bestN_succ (l : List Vc) (k : Nat) : bestN l (k + 1) = if bestN l k < 0 ∨ lessV l[k]! l[(bestN l k).toNat]! = true then (k : Int) else bestN l k := rfl

theorem bestN_lt (l : List Vc) (k : Nat) : -1 ≤ bestN l k ∧ bestN l k < k := by
  induction k with
  | zero => simp [bestN]
  | succ k ih =>
    unfold bestN
    split <;> omega

set_option maxRecDepth 100000 in
set_option maxHeartbeats 4000000 in
theorem best_any (g cap : Nat) (l : List Vc) (w : World) (h : VRow w g l) (hg : g < w.heap.size) (hl : l.length ≤ 12) :
    Calls Try.prog 25 #[.slice (some ⟨g, 0, none⟩) l.length cap] w fun e w' => e = .returned (.int .i64 (bestN l l.length)) ∧ Below w.heap.size w w' := by
  obtain ⟨n, hn⟩ : ∃ n, n = l.length := ⟨_, rfl⟩
  have HN := Lib.hid hn
  have hn2 : n ≤ 12 := by omega
  rw [← hn]
  clear hn hl
  go_enter Try.func25, Try.ntmps25
  go_wp2
  go_loopw [3, 8] (fun b i wr => ∃ k : Nat, k ≤ n ∧ i = .int .i64 k ∧ b = .int .i64 (bestN l k) ∧ Below w.heap.size w wr) (fun _ i _ => n - (intOf i).toNat)
  case atStart => exact ⟨0, by omega, rfl, rfl, Below.refl _ _⟩
  case round =>
    obtain ⟨k, hk, rfl, rfl, hb⟩ := hrel
    by_cases hlt : k < n
    · obtain ⟨h0, h1, h2, h3⟩ := (h.below hb hg) k (by rw [← HN.out]; exact hlt)
      obtain ⟨x, hx⟩ : ∃ x, x = l[k]! := ⟨_, rfl⟩
      rw [← hx] at h0 h1 h2 h3
      have X := Lib.hid hx
      clear hx
      go_upto_region 5 with fail
      have HB := Lib.hid (hb.alloc hb.size (Obj.cells (vcA x) 60))
      by_cases hneg : bestN l k < 0
      · have hN : decide (bestN l k < 0) = true := by simp [hneg]
        have STEP := Lib.hid (show bestN l (k + 1) = (k : Int) by unfold bestN; rw [if_pos (.inl hneg)])
        clear hneg
        refine wp_region_quiet (C := fun w' => Below w.heap.size w w') (by kernel_rfl) (by kernel_rfl) HB.out.drew ?_
        (refine q_val (v := ?_) (by rfl) ?_ ?_; rotate_left; (· (intro w hC; go_simp; try with_reducible rfl)); (try simp only [Act.put, List.getElem_toArray, List.getElem_cons_succ, List.getElem_cons_zero, List.setIfInBounds_toArray, List.set_cons_zero, List.set_cons_succ]))
        (refine q_val (v := ?_) (by rfl) ?_ ?_; rotate_left; (· (intro w hC; go_simp; try with_reducible rfl)); (try simp only [Act.put, List.getElem_toArray, List.getElem_cons_succ, List.getElem_cons_zero, List.setIfInBounds_toArray, List.set_cons_zero, List.set_cons_succ]))
        (refine q_val (v := ?_) (by rfl) ?_ ?_; rotate_left; (· (intro w hC; go_simp; try with_reducible rfl)); (try simp only [Act.put, List.getElem_toArray, List.getElem_cons_succ, List.getElem_cons_zero, List.setIfInBounds_toArray, List.set_cons_zero, List.set_cons_succ]))
        (refine q_skip (by rfl) ?_; (try simp only [Act.put, List.getElem_toArray, List.getElem_cons_succ, List.getElem_cons_zero, List.setIfInBounds_toArray, List.set_cons_zero, List.set_cons_succ]))
        (refine q_skip (by rfl) ?_; (try simp only [Act.put, List.getElem_toArray, List.getElem_cons_succ, List.getElem_cons_zero, List.setIfInBounds_toArray, List.set_cons_zero, List.set_cons_succ]))
        (refine q_skip (by rfl) ?_; (try simp only [Act.put, List.getElem_toArray, List.getElem_cons_succ, List.getElem_cons_zero, List.setIfInBounds_toArray, List.set_cons_zero, List.set_cons_succ]))
        (refine q_skip (by rfl) ?_; (try simp only [Act.put, List.getElem_toArray, List.getElem_cons_succ, List.getElem_cons_zero, List.setIfInBounds_toArray, List.set_cons_zero, List.set_cons_succ]))
        (refine q_skip (by rfl) ?_; (try simp only [Act.put, List.getElem_toArray, List.getElem_cons_succ, List.getElem_cons_zero, List.setIfInBounds_toArray, List.set_cons_zero, List.set_cons_succ]))
        (refine q_skip (by rfl) ?_; (try simp only [Act.put, List.getElem_toArray, List.getElem_cons_succ, List.getElem_cons_zero, List.setIfInBounds_toArray, List.set_cons_zero, List.set_cons_succ]))
        (refine q_val (v := ?_) (by rfl) ?_ ?_; rotate_left; (· (intro w hC; go_simp; try with_reducible rfl)); (try simp only [Act.put, List.getElem_toArray, List.getElem_cons_succ, List.getElem_cons_zero, List.setIfInBounds_toArray, List.set_cons_zero, List.set_cons_succ]))
        refine wpQuiet_nil ?_
        intro w' hC
        go_wp2
        go_roundw
        case rel => exact ⟨k + 1, by omega, by go_num, by rw [STEP.out], hC⟩
        case measure => simp [intOf]; omega
      · have hN : decide (bestN l k < 0) = false := by simp; omega
        obtain ⟨b, hbb⟩ := Int.eq_ofNat_of_zero_le (show 0 ≤ bestN l k by omega)
        have hbk := (bestN_lt l k).2
        obtain ⟨y, hy⟩ : ∃ y, y = l[b]! := ⟨_, rfl⟩
        obtain ⟨e0, e1, e2, e3⟩ := (h.below hb hg) b (by rw [← HN.out]; omega)
        rw [← hy] at e0 e1 e2 e3
        have L := Lib.hid (show bestN l (k + 1) = if lessV x y = true then (k : Int) else (b : Int) by rw [bestN_succ, hbb, ← X.out, hy]; simp [show ¬ ((b : Int) < 0) by omega])
        clear hy
        have hb1 : (0 : Int) ≤ (b : Int) ∧ (b : Int) < (n : Int) := by omega
        rw [hbb] at hN ⊢
        have hgw : g < wr.heap.size := Nat.lt_of_lt_of_le hg hb.size
        have hr : VcAt (wr.alloc (Obj.cells (vcA x) 60)) g (b * 4) y := VcAt.below ⟨e0, e1, e2, e3⟩ ((Below.refl wr.heap.size wr).alloc (Nat.le_refl _) _) hgw
        have hq : VcAt (wr.alloc (Obj.cells (vcA x) 60)) wr.heap.size 0 x := ⟨by simp, by simp, by simp, by simp⟩
        obtain ⟨w1, hw1⟩ : ∃ w1, w1 = wr.alloc (Obj.cells (vcA x) 60) := ⟨_, rfl⟩
        have hz : g < w1.heap.size ∧ wr.heap.size < w1.heap.size := by rw [hw1]; simp; omega
        rw [← hw1] at hr hq HB ⊢
        have STEP := HB.out
        have hc0 : BestC w w1 wr.heap.size g b x y w1.drew := ⟨HB.out.drew, (Below.refl _ _).drew, hq.drew, hr.drew⟩
        clear e0 e1 e2 e3 h0 h1 h2 h3 hr hq HB hw1 h STEP
        generalize wr.heap.size = gl at *
        clear hb
        refine wp_region_quiet (C := BestC w w1 gl g b x y) (by kernel_rfl) (by kernel_rfl) hc0 ?_
        (refine q_val (v := ?_) (by rfl) ?_ ?_; rotate_left; (· (intro w hC; go_simp; try with_reducible rfl)); (try simp only [Act.put, List.getElem_toArray, List.getElem_cons_succ, List.getElem_cons_zero, List.setIfInBounds_toArray, List.set_cons_zero, List.set_cons_succ]))
        (refine q_val (v := ?_) (by rfl) ?_ ?_; rotate_left; (· (intro w hC; go_simp; try with_reducible rfl)); (try simp only [Act.put, List.getElem_toArray, List.getElem_cons_succ, List.getElem_cons_zero, List.setIfInBounds_toArray, List.set_cons_zero, List.set_cons_succ]))
        (refine q_val (v := ?_) (by rfl) ?_ ?_; rotate_left; (· (intro w hC; go_simp; try with_reducible rfl)); (try simp only [Act.put, List.getElem_toArray, List.getElem_cons_succ, List.getElem_cons_zero, List.setIfInBounds_toArray, List.set_cons_zero, List.set_cons_succ]))
        (refine q_val (v := ?_) (by rfl) ?_ ?_; rotate_left; (· (intro w hC; have hq := hC.x.all; go_simp; try with_reducible rfl)); (try simp only [Act.put, List.getElem_toArray, List.getElem_cons_succ, List.getElem_cons_zero, List.setIfInBounds_toArray, List.set_cons_zero, List.set_cons_succ]))
        (refine q_val (v := ?_) (by rfl) ?_ ?_; rotate_left; (· (intro w hC; go_simp; try with_reducible rfl)); (try simp only [Act.put, List.getElem_toArray, List.getElem_cons_succ, List.getElem_cons_zero, List.setIfInBounds_toArray, List.set_cons_zero, List.set_cons_succ]))
        (refine q_val (v := ?_) (by rfl) ?_ ?_; rotate_left; (· (intro w hC; go_simp; try with_reducible rfl)); (try simp only [Act.put, List.getElem_toArray, List.getElem_cons_succ, List.getElem_cons_zero, List.setIfInBounds_toArray, List.set_cons_zero, List.set_cons_succ]))
        (refine q_val (v := ?_) (by rfl) ?_ ?_; rotate_left; (· (intro w hC; go_simp; try with_reducible rfl)); (try simp only [Act.put, List.getElem_toArray, List.getElem_cons_succ, List.getElem_cons_zero, List.setIfInBounds_toArray, List.set_cons_zero, List.set_cons_succ]))
        (refine q_val (v := ?_) (by rfl) ?_ ?_; rotate_left; (· (intro w hC; have hq := hC.y.all; go_simp; try with_reducible rfl)); (try simp only [Act.put, List.getElem_toArray, List.getElem_cons_succ, List.getElem_cons_zero, List.setIfInBounds_toArray, List.set_cons_zero, List.set_cons_succ]))
        (refine q_call (v := .bool (lessV x y)) 21 #[vcV x, vcV y] (by rfl) (fun w hC => by go_simp) (fun w hC => calls_in (better_any x y w) (fun w' hb => hC.next hb hz.1 hz.2)) ?_; (try simp only [Act.put, List.getElem_toArray, List.getElem_cons_succ, List.getElem_cons_zero, List.setIfInBounds_toArray, List.set_cons_zero, List.set_cons_succ]))
        (refine q_val (v := ?_) (by rfl) ?_ ?_; rotate_left; (· (intro w hC; go_simp; try with_reducible rfl)); (try simp only [Act.put, List.getElem_toArray, List.getElem_cons_succ, List.getElem_cons_zero, List.setIfInBounds_toArray, List.set_cons_zero, List.set_cons_succ]))
        refine wpQuiet_nil ?_
        intro w' hC
        by_cases hl : lessV x y = true
        · have STEP := Lib.hid L.out
          rw [if_pos hl] at STEP
          rw [hl]
          clear hl
          go_wp2
          go_roundw
          case rel => exact ⟨k + 1, by omega, by go_num, by rw [STEP.out], hC.below⟩
          case measure => simp [intOf]; omega
        · have STEP := Lib.hid L.out
          rw [if_neg hl] at STEP
          have hl' : lessV x y = false := by simpa using hl
          rw [hl']
          clear hl hl'
          go_wp2
          go_roundw
          case rel => exact ⟨k + 1, by omega, by go_num, by rw [STEP.out], hC.below⟩
          case measure => simp [intOf]; omega
    · have : k = n := by omega
      subst this
      go_wp2
      go_ret
      exact ⟨rfl, hb⟩
end Go.Proofs.Ytkohnleeiajiiaa
