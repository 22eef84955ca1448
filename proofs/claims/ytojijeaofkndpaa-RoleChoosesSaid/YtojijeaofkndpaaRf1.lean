/- The document's choice while it is made; the frames of its first loop. -/
import Derived.Test.YtojijeaofkndpaaRf0
namespace Go.Proofs.Ytojijeaofkndpaa
open Go.RowKit
attribute [local irreducible] wpQuiet wpList
set_option linter.unusedSimpArgs false
set_option linter.unusedVariables false

/-- The choice while it is made. -/
structure ChR (w : World) (R C : Nat) (P : Int) (b4 b5 : Nat) (v1 v2 : Value) (l1 : List Int) (l2 : List Vc) (wr : World) : Prop where
  below : Below w.heap.size w wr
  k4 : Blk wr b4 nilCh 38
  k5 : Blk wr b5 (chA R C P v1 v2) 38
  n4 : w.heap.size ≤ b4
  n5 : w.heap.size ≤ b5
  n45 : b4 ≠ b5
  o1 : Own wr w.heap.size 3 1 inC v1 l1
  o2 : Own wr w.heap.size 42 4 vcC v2 l2
  a14 : v1.ownBlock ≠ some b4
  a15 : v1.ownBlock ≠ some b5
  a24 : v2.ownBlock ≠ some b4
  a25 : v2.ownBlock ≠ some b5
  a12 : ∀ q, v1.ownBlock = some q → v2.ownBlock ≠ some q
section
variable {w wr w' : World} {R C : Nat} {P : Int} {b4 b5 : Nat} {v1 v2 u : Value} {l1 m1 : List Int} {l2 m2 : List Vc}
theorem ChR.next (h : ChR w R C P b4 b5 v1 v2 l1 l2 wr) (hb : Below wr.heap.size wr w') : ChR w R C P b4 b5 v1 v2 l1 l2 w' :=
  ⟨h.below.trans (hb.mono h.below.size), h.k4.below hb h.k4.lt, h.k5.below hb h.k5.lt, h.n4, h.n5, h.n45, h.o1.next hb, h.o2.next hb, h.a14, h.a15, h.a24, h.a25, h.a12⟩
theorem ChR.put1 (h : ChR w R C P b4 b5 v1 v2 l1 l2 wr) (hg : wr.grownBy w' v1.ownBlock) (ho : Own w' w.heap.size 3 1 inC u m1) (hb : ∀ k, u.ownBlock = some k → v1.ownBlock = some k ∨ wr.heap.size ≤ k) :
    ChR w R C P b4 b5 u v2 m1 l2 (w'.setCell ⟨b5, 3, none⟩ u) := by
  have k5 := h.k5.grown hg (fun e => h.a15 e.symm)
  have k4 := h.k4.grown hg (fun e => h.a14 e.symm)
  have o2 : Own w' w.heap.size 42 4 vcC v2 l2 := h.o2.kept hg (by
    cases c : v2.ownBlock with
    | none => exact .inl rfl
    | some q => exact .inr fun e => h.a12 q e.symm c)
  have u5 : u.ownBlock ≠ some b5 := fun e => by
    rcases hb b5 e with c | c
    · exact h.a15 c
    · have := h.k5.lt; omega
  refine ⟨(grownBelow h.below hg (fun k hk => (h.o1.lt k hk).1) h.below.size).setCell h.n5 _, k4.other (a := ⟨b5, 3, none⟩) (fun e => h.n45 e.symm) _, k5.set 3 u, h.n4, h.n5, h.n45, ho.setCell (fun e => u5 e) _, o2.setCell (fun e => h.a25 e) _, fun e => ?_, u5, h.a24, h.a25, fun q e => ?_⟩
  · rcases hb b4 e with c | c
    · exact h.a14 c
    · have := h.k4.lt; omega
  · intro e2
    rcases hb q e with c | c
    · exact h.a12 q c e2
    · have := (h.o2.lt q e2).2; omega
theorem ChR.put2 (h : ChR w R C P b4 b5 v1 v2 l1 l2 wr) (hg : wr.grownBy w' v2.ownBlock) (ho : Own w' w.heap.size 42 4 vcC u m2) (hb : ∀ k, u.ownBlock = some k → v2.ownBlock = some k ∨ wr.heap.size ≤ k) :
    ChR w R C P b4 b5 v1 u l1 m2 (w'.setCell ⟨b5, 4, none⟩ u) := by
  have k5 := h.k5.grown hg (fun e => h.a25 e.symm)
  have k4 := h.k4.grown hg (fun e => h.a24 e.symm)
  have o1 : Own w' w.heap.size 3 1 inC v1 l1 := h.o1.kept hg (by
    cases c : v1.ownBlock with
    | none => exact .inl rfl
    | some q => exact .inr fun e => h.a12 q c e.symm)
  have u5 : u.ownBlock ≠ some b5 := fun e => by
    rcases hb b5 e with c | c
    · exact h.a25 c
    · have := h.k5.lt; omega
  refine ⟨(grownBelow h.below hg (fun k hk => (h.o2.lt k hk).1) h.below.size).setCell h.n5 _, k4.other (a := ⟨b5, 4, none⟩) (fun e => h.n45 e.symm) _, k5.set 4 u, h.n4, h.n5, h.n45, o1.setCell (fun e => h.a15 e) _, ho.setCell (fun e => u5 e) _, h.a14, h.a15, fun e => ?_, u5, fun q e => ?_⟩
  · rcases hb b4 e with c | c
    · exact h.a24 c
    · have := h.k4.lt; omega
  · intro e2
    rcases hb q e2 with c | c
    · exact h.a12 q e c
    · have := (h.o1.lt q e).2; omega
end
theorem info42' : ∃ i z b, Try.prog.info? 42 = some i ∧ i.zero = some z ∧ i.size = 4 ∧ i.bytes = b ∧ z.cells.size = 4 ∧ b ≤ 1000 := by
  obtain ⟨i, h1, h3, h4, h5⟩ := info_parts (show (Try.prog.info? 42).map (fun i => (i.zero, i.size, i.bytes)) = some (some (.agg nil4), 4, 32) by kernel_rfl)
  exact ⟨i, _, _, h1, h3, h4, h5, rfl, by decide⟩
theorem vrefT : ElT Try.prog 36 42 4 vcC := ⟨Try.underlying36, info42', by decide, vc_len, vc_one⟩
set_option maxRecDepth 100000 in
theorem one_vref (x : Vc) : ∀ W : World, (Instr.buildSlice 36 1 #[(0, vcV x)]).run Try.prog W = .ok (.slice (some ⟨W.heap.size, 0, none⟩) 1 1) (W.alloc (.cells (vcA x) 42)) := fun W => by
  have u := Try.underlying36
  go_simp
/-- Both lists of the document's choice, and one element for each, while they grow and are laid. -/
structure Ap3 (w0 : World) (B b4 b5 bt R C : Nat) (P : Int) (t : Vc) (c1 c2 s1 s2 q1 q2 : Value) (m1 z1 : List Int) (m2 z2 : List Vc) (w : World) : Prop where
  below : Below B w0 w
  low : B ≤ w.heap.size
  n4 : B ≤ b4
  n5 : B ≤ b5
  n45 : b4 ≠ b5
  n5t : b5 ≠ bt
  k4 : Blk w b4 nilCh 38
  k5 : Blk w b5 (chA R C P s1 s2) 38
  kt : Blk w bt (vcA t) 42
  o1 : Own w B 3 1 inC c1 m1
  o2 : Own w B 42 4 vcC c2 m2
  o3 : Own w B 3 1 inC q1 z1
  o4 : Own w B 42 4 vcC q2 z2
  d12 : Off c1 c2
  d13 : Off c1 q1
  d14 : Off c1 q2
  d23 : Off c2 q1
  d24 : Off c2 q2
  a1 : c1.ownBlock ≠ some b4 ∧ c1.ownBlock ≠ some b5 ∧ c1.ownBlock ≠ some bt
  a2 : c2.ownBlock ≠ some b4 ∧ c2.ownBlock ≠ some b5 ∧ c2.ownBlock ≠ some bt
  a3 : q1.ownBlock ≠ some b5
  a4 : q2.ownBlock ≠ some b5
section
variable {w0 w w' : World} {B b4 b5 bt R C : Nat} {P : Int} {t : Vc} {c1 c2 s1 s2 q1 q2 u : Value} {m1 z1 : List Int} {m2 z2 : List Vc} {r : Int}
theorem off_newG {α : Type} {enc : α → List Value} {size : Nat} {v : Value} {e : TypeId} {l : List α} (h : Own w B e size enc v l) : Off v (.slice (some ⟨w.heap.size, 0, none⟩) 1 1) := fun k e1 e2 => by
  have := (h.lt k e1).2
  injection e2 with e2
  simp at e2
  omega
theorem own_litG {α : Type} {enc : α → List Value} {size : Nat} (henc : ∀ x, (enc x).length = size) (w : World) (e : TypeId) (hB : B ≤ w.heap.size) (x : α) : Own (w.alloc (.cells (enc x).toArray e)) B e size enc (.slice (some ⟨w.heap.size, 0, none⟩) 1 1) [x] := by
  have := Own.lit (e := e) (base := B) w hB henc [x] (by show 1 ≤ maxLen; decide)
  rw [show cellsL enc [x] = enc x by simp [cellsL]] at this
  exact this
theorem own_offG {α : Type} {enc : α → List Value} {size : Nat} {v c : Value} {e : TypeId} {l : List α} (h : Own w B e size enc v l) (hg : w.grownBy w' c.ownBlock) (ho : Off c v) : Own w' B e size enc v l := h.kept hg (by
  cases q : v.ownBlock with
  | none => exact .inl rfl
  | some k => exact .inr fun e => ho k e.symm q)
theorem off_appG {α : Type} {enc : α → List Value} {size : Nat} {c v : Value} {e : TypeId} {l : List α} (ho : Off c v) (h : Own w B e size enc v l) (hu : u.ownBlock = c.ownBlock ∨ u.ownBlock = some w.heap.size) : Off u v := fun k e1 e2 => by
  rcases hu with q | q
  · exact ho k (q ▸ e1) e2
  · have := (h.lt k e2).2
    rw [q] at e1
    injection e1 with e1
    omega
theorem Ap3.next (h : Ap3 w0 B b4 b5 bt R C P t c1 c2 s1 s2 q1 q2 m1 z1 m2 z2 w) (hb : Below w.heap.size w w') : Ap3 w0 B b4 b5 bt R C P t c1 c2 s1 s2 q1 q2 m1 z1 m2 z2 w' :=
  { h with below := h.below.trans (hb.mono h.low), low := Nat.le_trans h.low hb.size, k4 := h.k4.below hb h.k4.lt, k5 := h.k5.below hb h.k5.lt, kt := h.kt.below hb h.kt.lt, o1 := h.o1.next hb, o2 := h.o2.next hb, o3 := h.o3.next hb, o4 := h.o4.next hb }
theorem Ap3.made1 (h : Ap3 w0 B b4 b5 bt R C P t c1 c2 s1 s2 q1 q2 m1 z1 m2 z2 w) (r : Int) : Ap3 w0 B b4 b5 bt R C P t c1 c2 s1 s2 (.slice (some ⟨w.heap.size, 0, none⟩) 1 1) q2 m1 [r] m2 z2 (w.alloc (.cells #[.int .i64 r] 3)) :=
  have k := h.next ((Below.refl _ _).alloc (Nat.le_refl _) (.cells #[.int .i64 r] 3))
  { k with o3 := own_litG in_len w 3 h.low r, d13 := off_newG h.o1, d23 := off_newG h.o2, a3 := fun e => by injection e with e; simp at e; have := h.k5.lt; omega }
theorem Ap3.made2 (h : Ap3 w0 B b4 b5 bt R C P t c1 c2 s1 s2 q1 q2 m1 z1 m2 z2 w) : Ap3 w0 B b4 b5 bt R C P t c1 c2 s1 s2 q1 (.slice (some ⟨w.heap.size, 0, none⟩) 1 1) m1 z1 m2 [t] (w.alloc (.cells (vcA t) 42)) :=
  have k := h.next ((Below.refl _ _).alloc (Nat.le_refl _) (.cells (vcA t) 42))
  { k with o4 := own_litG vc_len w 42 h.low t, d14 := off_newG h.o1, d24 := off_newG h.o2, a4 := fun e => by injection e with e; simp at e; have := h.k5.lt; omega }
theorem Ap3.app1 (h : Ap3 w0 B b4 b5 bt R C P t c1 c2 s1 s2 q1 q2 m1 [r] m2 z2 w) (hl : m1.length ≤ 1000) : ∃ u w', (Builtin.append_ #[31, 31] 31 #[c1, q1]).run Try.prog w = .ok u w' ∧ Ap3 w0 B b4 b5 bt R C P t u c2 s1 s2 q1 q2 (m1 ++ [r]) [r] m2 z2 w' := by
  obtain ⟨u, w', hr, ho, hg, hv⟩ := inT.app h.o1 h.o3.src (by simp; omega) h.low 31
  exact ⟨u, w', hr, { h with below := grownBelow h.below hg (fun k hk => (h.o1.lt k hk).1) h.low, low := Nat.le_trans h.low hg.size, k4 := h.k4.grown hg (fun e => h.a1.1 e.symm), k5 := h.k5.grown hg (fun e => h.a1.2.1 e.symm), kt := h.kt.grown hg (fun e => h.a1.2.2 e.symm), o1 := ho, o2 := own_offG h.o2 hg h.d12, o3 := own_offG h.o3 hg h.d13, o4 := own_offG h.o4 hg h.d14, d12 := off_appG h.d12 h.o2 hv, d13 := off_appG h.d13 h.o3 hv, d14 := off_appG h.d14 h.o4 hv, a1 := ⟨n_app h.a1.1 h.k4.lt hv, n_app h.a1.2.1 h.k5.lt hv, n_app h.a1.2.2 h.kt.lt hv⟩ }⟩
theorem Ap3.app2 (h : Ap3 w0 B b4 b5 bt R C P t c1 c2 s1 s2 q1 q2 m1 z1 m2 [t] w) (hl : m2.length ≤ 1000) : ∃ u w', (Builtin.append_ #[36, 36] 36 #[c2, q2]).run Try.prog w = .ok u w' ∧ Ap3 w0 B b4 b5 bt R C P t c1 u s1 s2 q1 q2 m1 z1 (m2 ++ [t]) [t] w' := by
  obtain ⟨u, w', hr, ho, hg, hv⟩ := vrefT.app h.o2 h.o4.src (by simp; omega) h.low 36
  exact ⟨u, w', hr, { h with below := grownBelow h.below hg (fun k hk => (h.o2.lt k hk).1) h.low, low := Nat.le_trans h.low hg.size, k4 := h.k4.grown hg (fun e => h.a2.1 e.symm), k5 := h.k5.grown hg (fun e => h.a2.2.1 e.symm), kt := h.kt.grown hg (fun e => h.a2.2.2 e.symm), o1 := own_offG h.o1 hg h.d12.symm, o2 := ho, o3 := own_offG h.o3 hg h.d23, o4 := own_offG h.o4 hg h.d24, d12 := (off_appG h.d12.symm h.o1 hv).symm, d23 := off_appG h.d23 h.o3 hv, d24 := off_appG h.d24 h.o4 hv, a2 := ⟨n_app h.a2.1 h.k4.lt hv, n_app h.a2.2.1 h.k5.lt hv, n_app h.a2.2.2 h.kt.lt hv⟩ }⟩
theorem Ap3.put1 (h : Ap3 w0 B b4 b5 bt R C P t c1 c2 s1 s2 q1 q2 m1 z1 m2 z2 w) : Ap3 w0 B b4 b5 bt R C P t c1 c2 c1 s2 q1 q2 m1 z1 m2 z2 (w.setCell ⟨b5, 3, none⟩ c1) :=
  { h with below := h.below.setCell h.n5 _, low := by simpa using h.low, k4 := h.k4.other (a := ⟨b5, 3, none⟩) (fun e => h.n45 e.symm) _, k5 := h.k5.set 3 c1, kt := h.kt.other (a := ⟨b5, 3, none⟩) h.n5t _, o1 := h.o1.setCell (fun e => h.a1.2.1 e) _, o2 := h.o2.setCell (fun e => h.a2.2.1 e) _, o3 := h.o3.setCell (fun e => h.a3 e) _, o4 := h.o4.setCell (fun e => h.a4 e) _ }
theorem Ap3.put2 (h : Ap3 w0 B b4 b5 bt R C P t c1 c2 s1 s2 q1 q2 m1 z1 m2 z2 w) : Ap3 w0 B b4 b5 bt R C P t c1 c2 s1 c2 q1 q2 m1 z1 m2 z2 (w.setCell ⟨b5, 4, none⟩ c2) :=
  { h with below := h.below.setCell h.n5 _, low := by simpa using h.low, k4 := h.k4.other (a := ⟨b5, 4, none⟩) (fun e => h.n45 e.symm) _, k5 := h.k5.set 4 c2, kt := h.kt.other (a := ⟨b5, 4, none⟩) h.n5t _, o1 := h.o1.setCell (fun e => h.a1.2.1 e) _, o2 := h.o2.setCell (fun e => h.a2.2.1 e) _, o3 := h.o3.setCell (fun e => h.a3 e) _, o4 := h.o4.setCell (fun e => h.a4 e) _ }
end
noncomputable def tail12 (n : Nat) : Code := ((Try.f12.body.bind (fromC n)).getD .skip)
def atN : Option (Nat × Rp) → Int
  | none => -1
  | some y => (y.1 : Nat)
/-- The slots, while the region runs. -/
def RcF1 (self n m k g : Nat) (x : Rp) (f2 f3 f8 f9 f10 f11 f12 u17 u18 u19 u20 u21 u22 u23 u24 u25 u26 u27 u28 u29 u30 u31 u32 u33 u34 u35 u36 u37 u38 u39 u40 f41 f42 f43 f44 f45 f46 f47 f48 f49 f50 f51 f52 f53 f54 f55 f56 f57 f58 f59 f60 f61 f62 f63 f64 f65 f66 f67 f68 f69 f70 f71 f72 f73 f74 f75 f76 f77 f78 f79 f80 f81 f82 f83 f84 f85 f86 f87 f88 f89 f90 f91 f92 f93 f94 f95 f96 f97 f98 f99 f100 f101 f102 f103 f104 f105 f106 f107 f108 f109 f110 f111 f112 f113 f114 f115 f116 f117 f118 f119 f120 f121 f122 f123 f124 f125 f126 f127 f128 f129 f130 f131 f132 f133 f134 f135 f136 f137 f138 : Value) (b4 b5 : Nat) (L : Nat → Bool) : Act := { tmps := #[.int .u64 (self : Nat), .slice (some ⟨g, 0, none⟩) n m, f2, f3, .pointer (some ⟨b4, 0, none⟩), .pointer (some ⟨b5, 0, none⟩), .int .i64 (-1), .int .i64 (k : Nat), f8, f9, f10, f11, f12, .int .i64 (k : Nat), .slice (some ⟨g, 0, none⟩) n m, .int .i64 (n : Nat), .bool true, u17, u18, bif L 0 then .int .u64 (self : Nat) else u19, bif L 1 then .slice (some ⟨g, 0, none⟩) n m else u20, bif L 2 then .int .i64 (k : Nat) else u21, bif L 3 then .pointer (some ⟨g, k * 8, none⟩) else u22, bif L 4 then .agg (rpA x) else u23, bif L 5 then .bool false else u24, bif L 6 then .bool false else u25, bif L 7 then undef else u26, bif L 8 then undef else u27, bif L 9 then undef else u28, bif L 10 then undef else u29, bif L 11 then undef else u30, bif L 12 then undef else u31, bif L 13 then undef else u32, bif L 14 then undef else u33, bif L 15 then undef else u34, bif L 16 then undef else u35, bif L 17 then undef else u36, bif L 18 then undef else u37, bif L 19 then undef else u38, bif L 20 then .bool false else u39, u40, f41, f42, f43, f44, f45, f46, f47, f48, f49, f50, f51, f52, f53, f54, f55, f56, f57, f58, f59, f60, f61, f62, f63, f64, f65, f66, f67, f68, f69, f70, f71, f72, f73, f74, f75, f76, f77, f78, f79, f80, f81, f82, f83, f84, f85, f86, f87, f88, f89, f90, f91, f92, f93, f94, f95, f96, f97, f98, f99, f100, f101, f102, f103, f104, f105, f106, f107, f108, f109, f110, f111, f112, f113, f114, f115, f116, f117, f118, f119, f120, f121, f122, f123, f124, f125, f126, f127, f128, f129, f130, f131, f132, f133, f134, f135, f136, f137, f138], defers := [] }
/-- The slots, while the region runs. -/
def RcF2 (self n m k g : Nat) (x : Rp) (y : Nat × Rp) (f2 f3 f8 f9 f10 f11 f12 u17 u18 u19 u20 u21 u22 u23 u24 u25 u26 u27 u28 u29 u30 u31 u32 u33 u34 u35 u36 u37 u38 u39 u40 f41 f42 f43 f44 f45 f46 f47 f48 f49 f50 f51 f52 f53 f54 f55 f56 f57 f58 f59 f60 f61 f62 f63 f64 f65 f66 f67 f68 f69 f70 f71 f72 f73 f74 f75 f76 f77 f78 f79 f80 f81 f82 f83 f84 f85 f86 f87 f88 f89 f90 f91 f92 f93 f94 f95 f96 f97 f98 f99 f100 f101 f102 f103 f104 f105 f106 f107 f108 f109 f110 f111 f112 f113 f114 f115 f116 f117 f118 f119 f120 f121 f122 f123 f124 f125 f126 f127 f128 f129 f130 f131 f132 f133 f134 f135 f136 f137 f138 : Value) (b4 b5 : Nat) (L : Nat → Bool) : Act := { tmps := #[.int .u64 (self : Nat), .slice (some ⟨g, 0, none⟩) n m, f2, f3, .pointer (some ⟨b4, 0, none⟩), .pointer (some ⟨b5, 0, none⟩), .int .i64 (y.1 : Nat), .int .i64 (k : Nat), f8, f9, f10, f11, f12, .int .i64 (k : Nat), .slice (some ⟨g, 0, none⟩) n m, .int .i64 (n : Nat), .bool true, u17, u18, bif L 0 then .int .u64 (self : Nat) else u19, bif L 1 then .slice (some ⟨g, 0, none⟩) n m else u20, bif L 2 then .int .i64 (k : Nat) else u21, bif L 3 then .pointer (some ⟨g, k * 8, none⟩) else u22, bif L 4 then .agg (rpA x) else u23, bif L 5 then .bool false else u24, bif L 6 then .bool false else u25, bif L 7 then undef else u26, bif L 8 then undef else u27, bif L 9 then undef else u28, bif L 10 then undef else u29, bif L 11 then undef else u30, bif L 12 then undef else u31, bif L 13 then undef else u32, bif L 14 then undef else u33, bif L 15 then undef else u34, bif L 16 then undef else u35, bif L 17 then undef else u36, bif L 18 then undef else u37, bif L 19 then undef else u38, bif L 20 then .bool false else u39, u40, f41, f42, f43, f44, f45, f46, f47, f48, f49, f50, f51, f52, f53, f54, f55, f56, f57, f58, f59, f60, f61, f62, f63, f64, f65, f66, f67, f68, f69, f70, f71, f72, f73, f74, f75, f76, f77, f78, f79, f80, f81, f82, f83, f84, f85, f86, f87, f88, f89, f90, f91, f92, f93, f94, f95, f96, f97, f98, f99, f100, f101, f102, f103, f104, f105, f106, f107, f108, f109, f110, f111, f112, f113, f114, f115, f116, f117, f118, f119, f120, f121, f122, f123, f124, f125, f126, f127, f128, f129, f130, f131, f132, f133, f134, f135, f136, f137, f138], defers := [] }
/-- The slots, while the region runs. -/
def RcF3 (self n m k g : Nat) (x : Rp) (f2 f3 f8 f9 f10 f11 f12 u17 u18 u19 u20 u21 u22 u23 u24 u25 u26 u27 u28 u29 u30 u31 u32 u33 u34 u35 u36 u37 u38 u39 u40 f41 f42 f43 f44 f45 f46 f47 f48 f49 f50 f51 f52 f53 f54 f55 f56 f57 f58 f59 f60 f61 f62 f63 f64 f65 f66 f67 f68 f69 f70 f71 f72 f73 f74 f75 f76 f77 f78 f79 f80 f81 f82 f83 f84 f85 f86 f87 f88 f89 f90 f91 f92 f93 f94 f95 f96 f97 f98 f99 f100 f101 f102 f103 f104 f105 f106 f107 f108 f109 f110 f111 f112 f113 f114 f115 f116 f117 f118 f119 f120 f121 f122 f123 f124 f125 f126 f127 f128 f129 f130 f131 f132 f133 f134 f135 f136 f137 f138 : Value) (b4 b5 : Nat) (L : Nat → Bool) : Act := { tmps := #[.int .u64 (self : Nat), .slice (some ⟨g, 0, none⟩) n m, f2, f3, .pointer (some ⟨b4, 0, none⟩), .pointer (some ⟨b5, 0, none⟩), .int .i64 (-1), .int .i64 (k : Nat), f8, f9, f10, f11, f12, .int .i64 (k : Nat), .slice (some ⟨g, 0, none⟩) n m, .int .i64 (n : Nat), .bool true, u17, u18, bif L 0 then .int .u64 (self : Nat) else u19, bif L 1 then .slice (some ⟨g, 0, none⟩) n m else u20, bif L 2 then .int .i64 (k : Nat) else u21, bif L 3 then .pointer (some ⟨g, k * 8, none⟩) else u22, bif L 4 then .agg (rpA x) else u23, bif L 5 then .bool true else u24, bif L 6 then .bool true else u25, bif L 7 then .int .i64 (-1) else u26, bif L 8 then .bool true else u27, bif L 9 then .bool true else u28, bif L 10 then undef else u29, bif L 11 then undef else u30, bif L 12 then undef else u31, bif L 13 then undef else u32, bif L 14 then undef else u33, bif L 15 then undef else u34, bif L 16 then undef else u35, bif L 17 then undef else u36, bif L 18 then undef else u37, bif L 19 then .bool true else u38, bif L 20 then .bool true else u39, u40, f41, f42, f43, f44, f45, f46, f47, f48, f49, f50, f51, f52, f53, f54, f55, f56, f57, f58, f59, f60, f61, f62, f63, f64, f65, f66, f67, f68, f69, f70, f71, f72, f73, f74, f75, f76, f77, f78, f79, f80, f81, f82, f83, f84, f85, f86, f87, f88, f89, f90, f91, f92, f93, f94, f95, f96, f97, f98, f99, f100, f101, f102, f103, f104, f105, f106, f107, f108, f109, f110, f111, f112, f113, f114, f115, f116, f117, f118, f119, f120, f121, f122, f123, f124, f125, f126, f127, f128, f129, f130, f131, f132, f133, f134, f135, f136, f137, f138], defers := [] }
/-- The slots, while the region runs. -/
def RcF4 (self n m k g : Nat) (x : Rp) (y : Nat × Rp) (f2 f3 f8 f9 f10 f11 f12 u17 u18 u19 u20 u21 u22 u23 u24 u25 u26 u27 u28 u29 u30 u31 u32 u33 u34 u35 u36 u37 u38 u39 u40 f41 f42 f43 f44 f45 f46 f47 f48 f49 f50 f51 f52 f53 f54 f55 f56 f57 f58 f59 f60 f61 f62 f63 f64 f65 f66 f67 f68 f69 f70 f71 f72 f73 f74 f75 f76 f77 f78 f79 f80 f81 f82 f83 f84 f85 f86 f87 f88 f89 f90 f91 f92 f93 f94 f95 f96 f97 f98 f99 f100 f101 f102 f103 f104 f105 f106 f107 f108 f109 f110 f111 f112 f113 f114 f115 f116 f117 f118 f119 f120 f121 f122 f123 f124 f125 f126 f127 f128 f129 f130 f131 f132 f133 f134 f135 f136 f137 f138 : Value) (b4 b5 : Nat) (L : Nat → Bool) : Act := { tmps := #[.int .u64 (self : Nat), .slice (some ⟨g, 0, none⟩) n m, f2, f3, .pointer (some ⟨b4, 0, none⟩), .pointer (some ⟨b5, 0, none⟩), .int .i64 (y.1 : Nat), .int .i64 (k : Nat), f8, f9, f10, f11, f12, .int .i64 (k : Nat), .slice (some ⟨g, 0, none⟩) n m, .int .i64 (n : Nat), .bool true, u17, u18, bif L 0 then .int .u64 (self : Nat) else u19, bif L 1 then .slice (some ⟨g, 0, none⟩) n m else u20, bif L 2 then .int .i64 (k : Nat) else u21, bif L 3 then .pointer (some ⟨g, k * 8, none⟩) else u22, bif L 4 then .agg (rpA x) else u23, bif L 5 then .bool true else u24, bif L 6 then .bool true else u25, bif L 7 then .int .i64 (y.1 : Nat) else u26, bif L 8 then .bool false else u27, bif L 9 then .bool false else u28, bif L 10 then .slice (some ⟨g, 0, none⟩) n m else u29, bif L 11 then .int .i64 (k : Nat) else u30, bif L 12 then .pointer (some ⟨g, k * 8, none⟩) else u31, bif L 13 then .agg (rpA x) else u32, bif L 14 then .slice (some ⟨g, 0, none⟩) n m else u33, bif L 15 then .int .i64 (y.1 : Nat) else u34, bif L 16 then .pointer (some ⟨g, y.1 * 8, none⟩) else u35, bif L 17 then .agg (rpA y.2) else u36, bif L 18 then .bool false else u37, bif L 19 then .bool false else u38, bif L 20 then .bool false else u39, u40, f41, f42, f43, f44, f45, f46, f47, f48, f49, f50, f51, f52, f53, f54, f55, f56, f57, f58, f59, f60, f61, f62, f63, f64, f65, f66, f67, f68, f69, f70, f71, f72, f73, f74, f75, f76, f77, f78, f79, f80, f81, f82, f83, f84, f85, f86, f87, f88, f89, f90, f91, f92, f93, f94, f95, f96, f97, f98, f99, f100, f101, f102, f103, f104, f105, f106, f107, f108, f109, f110, f111, f112, f113, f114, f115, f116, f117, f118, f119, f120, f121, f122, f123, f124, f125, f126, f127, f128, f129, f130, f131, f132, f133, f134, f135, f136, f137, f138], defers := [] }
/-- The slots, while the region runs. -/
def RcF5 (self n m k g : Nat) (x : Rp) (y : Nat × Rp) (f2 f3 f8 f9 f10 f11 f12 u17 u18 u19 u20 u21 u22 u23 u24 u25 u26 u27 u28 u29 u30 u31 u32 u33 u34 u35 u36 u37 u38 u39 u40 f41 f42 f43 f44 f45 f46 f47 f48 f49 f50 f51 f52 f53 f54 f55 f56 f57 f58 f59 f60 f61 f62 f63 f64 f65 f66 f67 f68 f69 f70 f71 f72 f73 f74 f75 f76 f77 f78 f79 f80 f81 f82 f83 f84 f85 f86 f87 f88 f89 f90 f91 f92 f93 f94 f95 f96 f97 f98 f99 f100 f101 f102 f103 f104 f105 f106 f107 f108 f109 f110 f111 f112 f113 f114 f115 f116 f117 f118 f119 f120 f121 f122 f123 f124 f125 f126 f127 f128 f129 f130 f131 f132 f133 f134 f135 f136 f137 f138 : Value) (b4 b5 : Nat) (L : Nat → Bool) : Act := { tmps := #[.int .u64 (self : Nat), .slice (some ⟨g, 0, none⟩) n m, f2, f3, .pointer (some ⟨b4, 0, none⟩), .pointer (some ⟨b5, 0, none⟩), .int .i64 (y.1 : Nat), .int .i64 (k : Nat), f8, f9, f10, f11, f12, .int .i64 (k : Nat), .slice (some ⟨g, 0, none⟩) n m, .int .i64 (n : Nat), .bool true, u17, u18, bif L 0 then .int .u64 (self : Nat) else u19, bif L 1 then .slice (some ⟨g, 0, none⟩) n m else u20, bif L 2 then .int .i64 (k : Nat) else u21, bif L 3 then .pointer (some ⟨g, k * 8, none⟩) else u22, bif L 4 then .agg (rpA x) else u23, bif L 5 then .bool true else u24, bif L 6 then .bool true else u25, bif L 7 then .int .i64 (y.1 : Nat) else u26, bif L 8 then .bool false else u27, bif L 9 then .bool false else u28, bif L 10 then .slice (some ⟨g, 0, none⟩) n m else u29, bif L 11 then .int .i64 (k : Nat) else u30, bif L 12 then .pointer (some ⟨g, k * 8, none⟩) else u31, bif L 13 then .agg (rpA x) else u32, bif L 14 then .slice (some ⟨g, 0, none⟩) n m else u33, bif L 15 then .int .i64 (y.1 : Nat) else u34, bif L 16 then .pointer (some ⟨g, y.1 * 8, none⟩) else u35, bif L 17 then .agg (rpA y.2) else u36, bif L 18 then .bool true else u37, bif L 19 then .bool true else u38, bif L 20 then .bool true else u39, u40, f41, f42, f43, f44, f45, f46, f47, f48, f49, f50, f51, f52, f53, f54, f55, f56, f57, f58, f59, f60, f61, f62, f63, f64, f65, f66, f67, f68, f69, f70, f71, f72, f73, f74, f75, f76, f77, f78, f79, f80, f81, f82, f83, f84, f85, f86, f87, f88, f89, f90, f91, f92, f93, f94, f95, f96, f97, f98, f99, f100, f101, f102, f103, f104, f105, f106, f107, f108, f109, f110, f111, f112, f113, f114, f115, f116, f117, f118, f119, f120, f121, f122, f123, f124, f125, f126, f127, f128, f129, f130, f131, f132, f133, f134, f135, f136, f137, f138], defers := [] }
end Go.Proofs.Ytojijeaofkndpaa
