/- VectorBetter, walked: for every two vectors and every cost it returns true. -/
import Derived.Test.YtkohnleeiajiiaaSpeaks6
import Derived.Test.YtkohnleeiajiiaaVEq
import Derived.RegionTactic
namespace Go.Proofs.Ytkohnleeiajiiaa
open Go.RowKit
set_option linter.unusedSimpArgs false

/-- Both vectors, twice, in memory. -/
structure BwC (w0 : World) (g h c d : Nat) (a b : Vc) (w : World) : Prop where
  below : Below w0.heap.size w0 w
  ka : VcAt w g 0 a
  kb : VcAt w h 0 b
  kc : VcAt w c 0 a
  kd : VcAt w d 0 b
  lg : g < w.heap.size
  lh : h < w.heap.size
  lc : c < w.heap.size
  ld : d < w.heap.size

theorem BwC.next {w0 w w' : World} {g h c d : Nat} {a b : Vc} (q : BwC w0 g h c d a b w) (hb : Below w.heap.size w w') : BwC w0 g h c d a b w' :=
  ⟨q.below.trans (hb.mono q.below.size), q.ka.below hb q.lg, q.kb.below hb q.lh, q.kc.below hb q.lc, q.kd.below hb q.ld, Nat.lt_of_lt_of_le q.lg hb.size, Nat.lt_of_lt_of_le q.lh hb.size, Nat.lt_of_lt_of_le q.lc hb.size, Nat.lt_of_lt_of_le q.ld hb.size⟩
theorem BwC.drew {w0 w : World} {g h c d : Nat} {a b : Vc} (q : BwC w0 g h c d a b w) : BwC w0 g h c d a b w.drew :=
  ⟨q.below.drew, q.ka.drew, q.kb.drew, q.kc.drew, q.kd.drew, q.lg, q.lh, q.lc, q.ld⟩

theorem VcAt.new (w : World) (x : Vc) (t : TypeId) : VcAt (w.alloc (Obj.cells (vcA x) t)) w.heap.size 0 x := ⟨by simp, by simp, by simp, by simp⟩
theorem VcAt.alloc {w : World} {g o : Nat} {x : Vc} (h : VcAt w g o x) (hg : g < w.heap.size) (u : Obj) : VcAt (w.alloc u) g o x := h.below ((Below.refl w.heap.size w).alloc (Nat.le_refl _) u) hg

theorem BwC.two {w0 w : World} {g h : Nat} {a b : Vc} (hb : Below w0.heap.size w0 w) (qa : VcAt w g 0 a) (qb : VcAt w h 0 b) (lg : g < w.heap.size) (lh : h < w.heap.size) :
    BwC w0 g h w.heap.size (w.heap.size + 1) a b ((w.alloc (Obj.cells (vcA a) 58)).alloc (Obj.cells (vcA b) 58)) ∧ BwC w0 g h (w.heap.size + 1) w.heap.size a b ((w.alloc (Obj.cells (vcA b) 58)).alloc (Obj.cells (vcA a) 58)) := by
  have key : ∀ (x y : Vc), VcAt ((w.alloc (Obj.cells (vcA x) 58)).alloc (Obj.cells (vcA y) 58)) w.heap.size 0 x ∧ VcAt ((w.alloc (Obj.cells (vcA x) 58)).alloc (Obj.cells (vcA y) 58)) (w.heap.size + 1) 0 y := fun x y => by
    refine ⟨(VcAt.new w x 58).alloc (by simp) _, ?_⟩
    have := VcAt.new (w.alloc (Obj.cells (vcA x) 58)) y 58
    rwa [show (w.alloc (Obj.cells (vcA x) 58)).heap.size = w.heap.size + 1 by simp] at this
  have hB : ∀ (x y : Vc), Below w0.heap.size w0 ((w.alloc (Obj.cells (vcA x) 58)).alloc (Obj.cells (vcA y) 58)) := fun x y => (hb.alloc hb.size _).alloc (by have := hb.size; simp; omega) _
  exact ⟨⟨hB a b, (qa.alloc lg _).alloc (by simp; omega) _, (qb.alloc lh _).alloc (by simp; omega) _, (key a b).1, (key a b).2, by simp; omega, by simp; omega, by simp; omega, by simp⟩,
    ⟨hB b a, (qa.alloc lg _).alloc (by simp; omega) _, (qb.alloc lh _).alloc (by simp; omega) _, (key b a).2, (key b a).1, by simp; omega, by simp; omega, by simp, by simp; omega⟩⟩

set_option maxRecDepth 100000 in
set_option maxHeartbeats 8000000 in
theorem better_walk (a b : Vc) (k : Nat) (w : World) (ha : a.c < 4294967296) (hk : k < 4294967296) :
    Calls Try.prog 6 #[vcV a, vcV b, .int .u32 (k : Nat)] w fun e w' => e = .returned (.bool true) ∧ Below w.heap.size w w' := by
  obtain ⟨W, hW⟩ : ∃ W, W = (w.alloc (Obj.cells (vcA a) 57)).alloc (Obj.cells (vcA b) 57) := ⟨_, rfl⟩
  have hB : Below w.heap.size w W := by rw [hW]; exact ((Below.refl _ _).alloc (Nat.le_refl _) _).alloc (by simp) _
  have qa : VcAt W w.heap.size 0 a := by rw [hW]; exact (VcAt.new w a 57).alloc (by simp) _
  have qb : VcAt W (w.heap.size + 1) 0 b := by
    rw [hW]
    have := VcAt.new (w.alloc (Obj.cells (vcA a) 57)) b 57
    rwa [show (w.alloc (Obj.cells (vcA a) 57)).heap.size = w.heap.size + 1 by simp] at this
  have lg : w.heap.size < W.heap.size := by rw [hW]; simp; omega
  have lh : w.heap.size + 1 < W.heap.size := by rw [hW]; simp
  have HW := Lib.hid hW
  clear hW
  go_enter Try.func6, Try.ntmps6
  go_wp2_with fail
  refine (speaks6_any _).mono ?_
  rintro e w1 ⟨rfl, hb1⟩
  have hb1' : Below W.heap.size W w1 := by rw [HW.out]; exact hb1
  have hB1 := hB.trans (hb1'.mono hB.size)
  have qa1 := qa.below hb1' lg
  have qb1 := qb.below hb1' lh
  have lg1 := Nat.lt_of_lt_of_le lg hb1'.size
  have lh1 := Nat.lt_of_lt_of_le lh hb1'.size
  clear hB qa qb lg lh hb1 hb1' HW
  generalize w.heap.size + 1 = h at *
  have TWO := Lib.hid (BwC.two hB1 qa1 qb1 lg1 lh1)
  have pa := qa1.all
  have pb := qb1.all
  clear qa1 qb1 hB1
  go_upto_region 3 with fail
  go_cut [7, 8] (fun s7 s8 wx => ∃ c d, s7 = .pointer (some ⟨c, 0, none⟩) ∧ s8 = .pointer (some ⟨d, 0, none⟩) ∧ BwC w w.heap.size h c d a b wx)
  case first =>
    go_region
    · go_wp2_with fail
      go_meet
      exact ⟨_, _, rfl, rfl, TWO.out.1.drew⟩
    · go_wp2_with fail
      go_meet
      exact ⟨_, _, rfl, rfl, TWO.out.2.drew⟩
  case rest =>
    obtain ⟨c, d, rfl, rfl, hC0⟩ := hcut
    clear TWO pa pb lg1 lh1
    have heq : ∀ W, (Op.equalIn 10000 60 (vcV (plusV a k)) (vcV (plusV a k))).run Try.prog W = .ok true W := fun W => by rw [equal_vc, eqV_self]
    go_wp2_with fail
    refine wp_region_quiet (C := BwC w w.heap.size h c d a b) (by kernel_rfl) (by kernel_rfl) hC0.drew ?_
    (refine q_val (v := ?_) (by rfl) ?_ ?_; rotate_left; (· (intro w hC; have hq := hC.ka.all; go_simp; try with_reducible rfl)); (try simp only [Act.put, List.getElem_toArray, List.getElem_cons_succ, List.getElem_cons_zero, List.setIfInBounds_toArray, List.set_cons_zero, List.set_cons_succ]))
    (refine q_call (v := vcV a) 20 #[vcV a] (by rfl) (fun w hC => by go_simp) (fun w hC => calls_in (vtold_any a w) (fun w' hb => hC.next hb)) ?_; (try simp only [Act.put, List.getElem_toArray, List.getElem_cons_succ, List.getElem_cons_zero, List.setIfInBounds_toArray, List.set_cons_zero, List.set_cons_succ]))
    (refine q_val (v := ?_) (by rfl) ?_ ?_; rotate_left; (· (intro w hC; have hq := hC.kb.all; go_simp; try with_reducible rfl)); (try simp only [Act.put, List.getElem_toArray, List.getElem_cons_succ, List.getElem_cons_zero, List.setIfInBounds_toArray, List.set_cons_zero, List.set_cons_succ]))
    (refine q_call (v := vcV b) 20 #[vcV b] (by rfl) (fun w hC => by go_simp) (fun w hC => calls_in (vtold_any b w) (fun w' hb => hC.next hb)) ?_; (try simp only [Act.put, List.getElem_toArray, List.getElem_cons_succ, List.getElem_cons_zero, List.setIfInBounds_toArray, List.set_cons_zero, List.set_cons_succ]))
    (refine q_call (v := .bool (lessV a b)) 21 #[vcV a, vcV b] (by rfl) (fun w hC => by go_simp) (fun w hC => calls_in (better_any a b w) (fun w' hb => hC.next hb)) ?_; (try simp only [Act.put, List.getElem_toArray, List.getElem_cons_succ, List.getElem_cons_zero, List.setIfInBounds_toArray, List.set_cons_zero, List.set_cons_succ]))
    (refine q_val (v := ?_) (by rfl) ?_ ?_; rotate_left; (· (intro w hC; have hq := hC.kc.all; go_simp; try with_reducible rfl)); (try simp only [Act.put, List.getElem_toArray, List.getElem_cons_succ, List.getElem_cons_zero, List.setIfInBounds_toArray, List.set_cons_zero, List.set_cons_succ]))
    (refine q_val (v := ?_) (by rfl) ?_ ?_; rotate_left; (· (intro w hC; have hq := hC.kd.all; go_simp; try with_reducible rfl)); (try simp only [Act.put, List.getElem_toArray, List.getElem_cons_succ, List.getElem_cons_zero, List.setIfInBounds_toArray, List.set_cons_zero, List.set_cons_succ]))
    (refine q_call (v := .bool (lessV a b)) 22 #[vcV a, vcV b] (by rfl) (fun w hC => by go_simp) (fun w hC => calls_in (rbetter_any a b w) (fun w' hb => hC.next hb)) ?_; (try simp only [Act.put, List.getElem_toArray, List.getElem_cons_succ, List.getElem_cons_zero, List.setIfInBounds_toArray, List.set_cons_zero, List.set_cons_succ]))
    (refine q_val (v := ?_) (by rfl) ?_ ?_; rotate_left; (· (intro w hC; go_simp; try with_reducible rfl)); (try simp only [Act.put, List.getElem_toArray, List.getElem_cons_succ, List.getElem_cons_zero, List.setIfInBounds_toArray, List.set_cons_zero, List.set_cons_succ]))
    (refine q_val (v := ?_) (by rfl) ?_ ?_; rotate_left; (· (intro w hC; go_simp; try with_reducible rfl)); (try simp only [Act.put, List.getElem_toArray, List.getElem_cons_succ, List.getElem_cons_zero, List.setIfInBounds_toArray, List.set_cons_zero, List.set_cons_succ]))
    (refine q_val (v := ?_) (by rfl) ?_ ?_; rotate_left; (· (intro w hC; have hq := hC.ka.all; go_simp; try with_reducible rfl)); (try simp only [Act.put, List.getElem_toArray, List.getElem_cons_succ, List.getElem_cons_zero, List.setIfInBounds_toArray, List.set_cons_zero, List.set_cons_succ]))
    (refine q_call (v := vcV a) 20 #[vcV a] (by rfl) (fun w hC => by go_simp) (fun w hC => calls_in (vtold_any a w) (fun w' hb => hC.next hb)) ?_; (try simp only [Act.put, List.getElem_toArray, List.getElem_cons_succ, List.getElem_cons_zero, List.setIfInBounds_toArray, List.set_cons_zero, List.set_cons_succ]))
    (refine q_val (v := ?_) (by rfl) ?_ ?_; rotate_left; (· (intro w hC; go_simp; try with_reducible rfl)); (try simp only [Act.put, List.getElem_toArray, List.getElem_cons_succ, List.getElem_cons_zero, List.setIfInBounds_toArray, List.set_cons_zero, List.set_cons_succ]))
    (refine q_call (v := vcV (plusV a k)) 23 #[vcV a, .int .u32 (k : Nat)] (by rfl) (fun w hC => by go_simp) (fun w hC => calls_in (plus_any a k w ha hk) (fun w' hb => hC.next hb)) ?_; (try simp only [Act.put, List.getElem_toArray, List.getElem_cons_succ, List.getElem_cons_zero, List.setIfInBounds_toArray, List.set_cons_zero, List.set_cons_succ]))
    (refine q_val (v := ?_) (by rfl) ?_ ?_; rotate_left; (· (intro w hC; have hq := hC.kc.all; go_simp; try with_reducible rfl)); (try simp only [Act.put, List.getElem_toArray, List.getElem_cons_succ, List.getElem_cons_zero, List.setIfInBounds_toArray, List.set_cons_zero, List.set_cons_succ]))
    (refine q_val (v := ?_) (by rfl) ?_ ?_; rotate_left; (· (intro w hC; go_simp; try with_reducible rfl)); (try simp only [Act.put, List.getElem_toArray, List.getElem_cons_succ, List.getElem_cons_zero, List.setIfInBounds_toArray, List.set_cons_zero, List.set_cons_succ]))
    (refine q_call (v := vcV (plusV a k)) 24 #[vcV a, .int .u32 (k : Nat)] (by rfl) (fun w hC => by go_simp) (fun w hC => calls_in (rplus_any a k w ha hk) (fun w' hb => hC.next hb)) ?_; (try simp only [Act.put, List.getElem_toArray, List.getElem_cons_succ, List.getElem_cons_zero, List.setIfInBounds_toArray, List.set_cons_zero, List.set_cons_succ]))
    (refine q_call (v := vcV (plusV a k)) 20 #[vcV (plusV a k)] (by rfl) (fun w hC => by go_simp) (fun w hC => calls_in (vtold_any (plusV a k) w) (fun w' hb => hC.next hb)) ?_; (try simp only [Act.put, List.getElem_toArray, List.getElem_cons_succ, List.getElem_cons_zero, List.setIfInBounds_toArray, List.set_cons_zero, List.set_cons_succ]))
    (refine q_val (v := ?_) (by rfl) ?_ ?_; rotate_left; (· (intro w hC; have hq := heq w; go_simp; try with_reducible rfl)); (try simp only [Act.put, List.getElem_toArray, List.getElem_cons_succ, List.getElem_cons_zero, List.setIfInBounds_toArray, List.set_cons_zero, List.set_cons_succ]))
    (refine q_val (v := ?_) (by rfl) ?_ ?_; rotate_left; (· (intro w hC; go_simp; try with_reducible rfl)); (try simp only [Act.put, List.getElem_toArray, List.getElem_cons_succ, List.getElem_cons_zero, List.setIfInBounds_toArray, List.set_cons_zero, List.set_cons_succ]))
    (refine q_val (v := ?_) (by rfl) ?_ ?_; rotate_left; (· (intro w hC; go_simp; try with_reducible rfl)); (try simp only [Act.put, List.getElem_toArray, List.getElem_cons_succ, List.getElem_cons_zero, List.setIfInBounds_toArray, List.set_cons_zero, List.set_cons_succ]))
    refine wpQuiet_nil ?_
    intro w' hC
    go_wp2_with fail
    go_ret
    exact ⟨rfl, hC.below⟩
end Go.Proofs.Ytkohnleeiajiiaa
