/- Two lists that grow beside each other. -/
import Derived.Test.YtojijeaofkndpaaRo6
namespace Go.Proofs.Ytojijeaofkndpaa
open Go.RowKit
attribute [local irreducible] wpQuiet wpList
set_option linter.unusedSimpArgs false
set_option linter.unusedVariables false

def lqC (x : Rp) : List Value := (lqA x).toList
theorem rp_one (x : Rp) : ∀ u ∈ rpC x, u.oneCell' = true := by
  intro u hu
  simp [rpC, rpA] at hu
  rcases hu with h | h | h | h | h | h | h | h <;> (subst h; rfl)
theorem info47' : ∃ i z b, Try.prog.info? 47 = some i ∧ i.zero = some z ∧ i.size = 8 ∧ i.bytes = b ∧ z.cells.size = 8 ∧ b ≤ 1000 := by
  obtain ⟨i, h1, h3, h4, h5⟩ := info_parts (show (Try.prog.info? 47).map (fun i => (i.zero, i.size, i.bytes)) = some (some (.agg nil8), 8, 48) by kernel_rfl)
  exact ⟨i, _, _, h1, h3, h4, h5, rfl, by decide⟩
theorem info77' : ∃ i z b, Try.prog.info? 77 = some i ∧ i.zero = some z ∧ i.size = 8 ∧ i.bytes = b ∧ z.cells.size = 8 ∧ b ≤ 1000 := by
  obtain ⟨i, h1, h3, h4, h5⟩ := info_parts (show (Try.prog.info? 77).map (fun i => (i.zero, i.size, i.bytes)) = some (some (.agg nil8), 8, 48) by kernel_rfl)
  exact ⟨i, _, _, h1, h3, h4, h5, rfl, by decide⟩
theorem rpT : ElT Try.prog 25 47 8 rpC := ⟨Try.underlying25, info47', by decide, rp_len, rp_one⟩
theorem rqT : ElT Try.prog 26 77 8 rpC := ⟨Try.underlying26, info77', by decide, rp_len, rp_one⟩
set_option maxRecDepth 100000 in
theorem one_rp (x : Rp) : ∀ W : World, (Instr.buildSlice 25 1 #[(0, .agg (rpA x))]).run Try.prog W = .ok (.slice (some ⟨W.heap.size, 0, none⟩) 1 1) (W.alloc (.cells (rpA x) 47)) := fun W => by
  have u := Try.underlying25
  unfold rpA
  go_simp
set_option maxRecDepth 100000 in
theorem one_rq (x : Rp) : ∀ W : World, (Instr.buildSlice 26 1 #[(0, .agg (rpA x))]).run Try.prog W = .ok (.slice (some ⟨W.heap.size, 0, none⟩) 1 1) (W.alloc (.cells (rpA x) 77)) := fun W => by
  have u := Try.underlying26
  unfold rpA
  go_simp
/-- Two values that are not of the same block. -/
def Off (a b : Value) : Prop := ∀ k, a.ownBlock = some k → b.ownBlock ≠ some k
theorem Off.symm {a b : Value} (h : Off a b) : Off b a := fun k e e2 => h k e2 e
theorem off_nil (a : Value) : Off a (.slice none 0 0) := fun k _ e => by cases e
/-- Two lists, and one element for each, while they grow. -/
structure Ap2 (w0 : World) (B bp bt : Nat) (x : Rp) (c1 c2 q1 q2 : Value) (m1 m2 z1 z2 : List Rp) (w : World) : Prop where
  below : Below B w0 w
  low : B ≤ w.heap.size
  kp : Blk w bp (rpA x) 47
  kt : Blk w bt (rpA x) 77
  o1 : Own w B 47 8 rpC c1 m1
  o2 : Own w B 77 8 rpC c2 m2
  o3 : Own w B 47 8 rpC q1 z1
  o4 : Own w B 77 8 rpC q2 z2
  d12 : Off c1 c2
  d13 : Off c1 q1
  d14 : Off c1 q2
  d23 : Off c2 q1
  d24 : Off c2 q2
  n1 : c1.ownBlock ≠ some bp ∧ c1.ownBlock ≠ some bt
  n2 : c2.ownBlock ≠ some bp ∧ c2.ownBlock ≠ some bt
section
variable {w0 w w' : World} {B bp bt : Nat} {x : Rp} {c1 c2 q1 q2 u : Value} {m1 m2 z1 z2 m : List Rp}
theorem off_new {v : Value} {e : TypeId} {l : List Rp} (h : Own w B e 8 rpC v l) : Off v (.slice (some ⟨w.heap.size, 0, none⟩) 1 1) := fun k e1 e2 => by
  have := (h.lt k e1).2
  injection e2 with e2
  simp at e2
  omega
theorem Ap2.next (h : Ap2 w0 B bp bt x c1 c2 q1 q2 m1 m2 z1 z2 w) (hb : Below w.heap.size w w') : Ap2 w0 B bp bt x c1 c2 q1 q2 m1 m2 z1 z2 w' :=
  ⟨h.below.trans (hb.mono h.low), Nat.le_trans h.low hb.size, h.kp.below hb h.kp.lt, h.kt.below hb h.kt.lt, h.o1.next hb, h.o2.next hb, h.o3.next hb, h.o4.next hb, h.d12, h.d13, h.d14, h.d23, h.d24, h.n1, h.n2⟩
theorem own_lit1 (w : World) (e : TypeId) (hB : B ≤ w.heap.size) (x : Rp) : Own (w.alloc (.cells (rpA x) e)) B e 8 rpC (.slice (some ⟨w.heap.size, 0, none⟩) 1 1) [x] := by
  have := Own.lit (e := e) (base := B) w hB rp_len [x] (by show 1 ≤ maxLen; decide)
  have e1 : (cellsL rpC [x]).toArray = rpA x := by
    have : cellsL rpC [x] = rpC x := by simp [cellsL]
    rw [this]
    rfl
  rw [e1] at this
  exact this
theorem Ap2.made1 (h : Ap2 w0 B bp bt x c1 c2 q1 q2 m1 m2 z1 z2 w) : Ap2 w0 B bp bt x c1 c2 (.slice (some ⟨w.heap.size, 0, none⟩) 1 1) q2 m1 m2 [x] z2 (w.alloc (.cells (rpA x) 47)) :=
  have k := h.next ((Below.refl _ _).alloc (Nat.le_refl _) (.cells (rpA x) 47))
  ⟨k.below, k.low, k.kp, k.kt, k.o1, k.o2, own_lit1 w 47 h.low x, k.o4, k.d12, off_new h.o1, k.d14, off_new h.o2, k.d24, k.n1, k.n2⟩
theorem Ap2.made2 (h : Ap2 w0 B bp bt x c1 c2 q1 q2 m1 m2 z1 z2 w) : Ap2 w0 B bp bt x c1 c2 q1 (.slice (some ⟨w.heap.size, 0, none⟩) 1 1) m1 m2 z1 [x] (w.alloc (.cells (rpA x) 77)) :=
  have k := h.next ((Below.refl _ _).alloc (Nat.le_refl _) (.cells (rpA x) 77))
  ⟨k.below, k.low, k.kp, k.kt, k.o1, k.o2, k.o3, own_lit1 w 77 h.low x, k.d12, k.d13, off_new h.o1, k.d23, off_new h.o2, k.n1, k.n2⟩
theorem own_off {v c : Value} {e : TypeId} {l : List Rp} (h : Own w B e 8 rpC v l) (hg : w.grownBy w' c.ownBlock) (ho : Off c v) : Own w' B e 8 rpC v l := h.kept hg (by
  cases q : v.ownBlock with
  | none => exact .inl rfl
  | some k => exact .inr fun e => ho k e.symm q)
theorem off_app {c v : Value} {e : TypeId} {l : List Rp} (ho : Off c v) (h : Own w B e 8 rpC v l) (hu : u.ownBlock = c.ownBlock ∨ u.ownBlock = some w.heap.size) : Off u v := fun k e1 e2 => by
  rcases hu with q | q
  · exact ho k (q ▸ e1) e2
  · have := (h.lt k e2).2
    rw [q] at e1
    injection e1 with e1
    omega
theorem n_app {c : Value} {b : Nat} (hn : c.ownBlock ≠ some b) (hb : b < w.heap.size) (hu : u.ownBlock = c.ownBlock ∨ u.ownBlock = some w.heap.size) : u.ownBlock ≠ some b := fun e => by
  rcases hu with q | q
  · exact hn (q ▸ e)
  · rw [q] at e
    injection e with e
    omega
theorem Ap2.app1 (h : Ap2 w0 B bp bt x c1 c2 q1 q2 m1 m2 [x] z2 w) (hl : m1.length ≤ 1000) : ∃ u w', (Builtin.append_ #[25, 25] 25 #[c1, q1]).run Try.prog w = .ok u w' ∧ Ap2 w0 B bp bt x u c2 q1 q2 (m1 ++ [x]) m2 [x] z2 w' := by
  obtain ⟨u, w', hr, ho, hg, hv⟩ := rpT.app h.o1 h.o3.src (by simp; omega) h.low 25
  exact ⟨u, w', hr, grownBelow h.below hg (fun k hk => (h.o1.lt k hk).1) h.low, Nat.le_trans h.low hg.size, h.kp.grown hg (fun e => h.n1.1 e.symm), h.kt.grown hg (fun e => h.n1.2 e.symm), ho, own_off h.o2 hg h.d12, own_off h.o3 hg h.d13, own_off h.o4 hg h.d14,
    off_app h.d12 h.o2 hv, off_app h.d13 h.o3 hv, off_app h.d14 h.o4 hv, h.d23, h.d24, ⟨n_app h.n1.1 h.kp.lt hv, n_app h.n1.2 h.kt.lt hv⟩, h.n2⟩
theorem Ap2.app2 (h : Ap2 w0 B bp bt x c1 c2 q1 q2 m1 m2 z1 [x] w) (hl : m2.length ≤ 1000) : ∃ u w', (Builtin.append_ #[26, 26] 26 #[c2, q2]).run Try.prog w = .ok u w' ∧ Ap2 w0 B bp bt x c1 u q1 q2 m1 (m2 ++ [x]) z1 [x] w' := by
  obtain ⟨u, w', hr, ho, hg, hv⟩ := rqT.app h.o2 h.o4.src (by simp; omega) h.low 26
  exact ⟨u, w', hr, grownBelow h.below hg (fun k hk => (h.o2.lt k hk).1) h.low, Nat.le_trans h.low hg.size, h.kp.grown hg (fun e => h.n2.1 e.symm), h.kt.grown hg (fun e => h.n2.2 e.symm), own_off h.o1 hg h.d12.symm, ho, own_off h.o3 hg h.d23, own_off h.o4 hg h.d24,
    (off_app h.d12.symm h.o1 hv).symm, h.d13, h.d14, off_app h.d23 h.o3 hv, off_app h.d24 h.o4 hv, h.n1, ⟨n_app h.n2.1 h.kp.lt hv, n_app h.n2.2 h.kt.lt hv⟩⟩
end
end Go.Proofs.Ytojijeaofkndpaa
