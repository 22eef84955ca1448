/- The choice while it is made: its lists. -/
import Derived.Test.YtojijeaofkndpaaRo2
import Derived.Test.YtojijeaofkndpaaApp
namespace Go.Proofs.Ytojijeaofkndpaa
open Go.RowKit
attribute [local irreducible] wpQuiet wpList
set_option linter.unusedSimpArgs false
set_option linter.unusedVariables false

theorem z44 : ∀ W : World, (zeroValue 44).run Try.prog W = .ok (.agg nil4) W := fun W => Try.zeroValue44 W
def inC (x : Int) : List Value := [.int .i64 x]
def vcC (x : Vc) : List Value := (vcA x).toList
theorem in_len (x : Int) : (inC x).length = 1 := rfl
theorem vc_len (x : Vc) : (vcC x).length = 4 := rfl
theorem in_one (x : Int) : ∀ u ∈ inC x, u.oneCell' = true := by
  intro u hu
  simp [inC] at hu
  subst hu
  rfl
theorem vc_one (x : Vc) : ∀ u ∈ vcC x, u.oneCell' = true := by
  have := vcA_one x
  rw [Array.all_eq_true'] at this
  intro u hu
  exact this u (by simpa [vcC] using hu)
theorem info3' : ∃ i z b, Try.prog.info? 3 = some i ∧ i.zero = some z ∧ i.size = 1 ∧ i.bytes = b ∧ z.cells.size = 1 ∧ b ≤ 1000 := by
  obtain ⟨i, h1, h3, h4, h5⟩ := info_parts (show (Try.prog.info? 3).map (fun i => (i.zero, i.size, i.bytes)) = some (some (.int .i64 0), 1, 8) by kernel_rfl)
  exact ⟨i, _, _, h1, h3, h4, h5, rfl, by decide⟩
theorem info44' : ∃ i z b, Try.prog.info? 44 = some i ∧ i.zero = some z ∧ i.size = 4 ∧ i.bytes = b ∧ z.cells.size = 4 ∧ b ≤ 1000 := by
  obtain ⟨i, h1, h3, h4, h5⟩ := info_parts (show (Try.prog.info? 44).map (fun i => (i.zero, i.size, i.bytes)) = some (some (.agg nil4), 4, 32) by kernel_rfl)
  exact ⟨i, _, _, h1, h3, h4, h5, rfl, by decide⟩
theorem inT : ElT Try.prog 31 3 1 inC := ⟨Try.underlying31, info3', by decide, in_len, in_one⟩
theorem vcT : ElT Try.prog 32 44 4 vcC := ⟨Try.underlying32, info44', by decide, vc_len, vc_one⟩
set_option maxRecDepth 100000 in
theorem one_in (x : Int) : ∀ W : World, (Instr.buildSlice 31 1 #[(0, .int .i64 x)]).run Try.prog W = .ok (.slice (some ⟨W.heap.size, 0, none⟩) 1 1) (W.alloc (.cells #[.int .i64 x] 3)) := fun W => by
  have u := Try.underlying31
  go_simp
set_option maxRecDepth 100000 in
theorem one_vc (x : Vc) : ∀ W : World, (Instr.buildSlice 32 1 #[(0, vcV x)]).run Try.prog W = .ok (.slice (some ⟨W.heap.size, 0, none⟩) 1 1) (W.alloc (.cells (vcA x) 44)) := fun W => by
  have u := Try.underlying32
  go_simp
def chA (R C : Nat) (P : Int) (v1 v2 : Value) : Array Value := #[.int .u64 (R : Nat), .int .u32 (C : Nat), .int .i64 P, v1, v2]
/-- The choice while it is made. -/
structure ChW (w : World) (R C : Nat) (P : Int) (b4 b5 : Nat) (v1 v2 : Value) (l1 : List Int) (l2 : List Vc) (wr : World) : Prop where
  below : Below w.heap.size w wr
  k4 : Blk wr b4 nilCh 34
  k5 : Blk wr b5 (chA R C P v1 v2) 34
  n4 : w.heap.size ≤ b4
  n5 : w.heap.size ≤ b5
  n45 : b4 ≠ b5
  o1 : Own wr w.heap.size 3 1 inC v1 l1
  o2 : Own wr w.heap.size 44 4 vcC v2 l2
  a14 : v1.ownBlock ≠ some b4
  a15 : v1.ownBlock ≠ some b5
  a24 : v2.ownBlock ≠ some b4
  a25 : v2.ownBlock ≠ some b5
  a12 : ∀ q, v1.ownBlock = some q → v2.ownBlock ≠ some q
section
variable {w wr w' : World} {R C : Nat} {P : Int} {b4 b5 : Nat} {v1 v2 u : Value} {l1 m1 : List Int} {l2 m2 : List Vc}
theorem ChW.next (h : ChW w R C P b4 b5 v1 v2 l1 l2 wr) (hb : Below wr.heap.size wr w') : ChW w R C P b4 b5 v1 v2 l1 l2 w' :=
  ⟨h.below.trans (hb.mono h.below.size), h.k4.below hb h.k4.lt, h.k5.below hb h.k5.lt, h.n4, h.n5, h.n45, h.o1.next hb, h.o2.next hb, h.a14, h.a15, h.a24, h.a25, h.a12⟩
theorem ChW.put1 (h : ChW w R C P b4 b5 v1 v2 l1 l2 wr) (hg : wr.grownBy w' v1.ownBlock) (ho : Own w' w.heap.size 3 1 inC u m1) (hb : ∀ k, u.ownBlock = some k → v1.ownBlock = some k ∨ wr.heap.size ≤ k) :
    ChW w R C P b4 b5 u v2 m1 l2 (w'.setCell ⟨b5, 3, none⟩ u) := by
  have k5 := h.k5.grown hg (fun e => h.a15 e.symm)
  have k4 := h.k4.grown hg (fun e => h.a14 e.symm)
  have o2 : Own w' w.heap.size 44 4 vcC v2 l2 := h.o2.kept hg (by
    cases c : v2.ownBlock with
    | none => exact .inl rfl
    | some q => exact .inr fun e => h.a12 q e.symm c)
  have u5 : u.ownBlock ≠ some b5 := fun e => by
    rcases hb b5 e with c | c
    · exact h.a15 c
    · have := h.k5.lt; omega
  refine ⟨(grownBelow h.below hg (fun k hk => (h.o1.lt k hk).1) h.below.size).setCell h.n5 _, k4.other (a := ⟨b5, 3, none⟩) (fun e => h.n45 e.symm) _, k5.set 3 u, h.n4, h.n5, h.n45, ho.setCell (fun e => u5 e) _, o2.setCell (fun e => h.a25 e) _, fun e => ?_, u5, h.a24, h.a25, fun q e => ?_⟩
  · rcases hb b4 e with c | c
    · exact h.a14 c
    · have := h.k4.lt; omega
  · intro e2
    rcases hb q e with c | c
    · exact h.a12 q c e2
    · have := (h.o2.lt q e2).2; omega
theorem ChW.put2 (h : ChW w R C P b4 b5 v1 v2 l1 l2 wr) (hg : wr.grownBy w' v2.ownBlock) (ho : Own w' w.heap.size 44 4 vcC u m2) (hb : ∀ k, u.ownBlock = some k → v2.ownBlock = some k ∨ wr.heap.size ≤ k) :
    ChW w R C P b4 b5 v1 u l1 m2 (w'.setCell ⟨b5, 4, none⟩ u) := by
  have k5 := h.k5.grown hg (fun e => h.a25 e.symm)
  have k4 := h.k4.grown hg (fun e => h.a24 e.symm)
  have o1 : Own w' w.heap.size 3 1 inC v1 l1 := h.o1.kept hg (by
    cases c : v1.ownBlock with
    | none => exact .inl rfl
    | some q => exact .inr fun e => h.a12 q c e.symm)
  have u5 : u.ownBlock ≠ some b5 := fun e => by
    rcases hb b5 e with c | c
    · exact h.a25 c
    · have := h.k5.lt; omega
  refine ⟨(grownBelow h.below hg (fun k hk => (h.o2.lt k hk).1) h.below.size).setCell h.n5 _, k4.other (a := ⟨b5, 4, none⟩) (fun e => h.n45 e.symm) _, k5.set 4 u, h.n4, h.n5, h.n45, o1.setCell (fun e => h.a15 e) _, ho.setCell (fun e => u5 e) _, h.a14, h.a15, fun e => ?_, u5, fun q e => ?_⟩
  · rcases hb b4 e with c | c
    · exact h.a24 c
    · have := h.k4.lt; omega
  · intro e2
    rcases hb q e2 with c | c
    · exact h.a12 q e c
    · have := (h.o1.lt q e).2; omega
end
theorem ApW.start0 {α : Type} {B : Nat} {e : TypeId} {size : Nat} {enc : α → List Value} {w1 : World} {cur vS vR : Value} {l : List α} {x : α} (h : Own w1 B e size enc cur l) (hB : B ≤ w1.heap.size) : ApW w1 B e size enc cur l x false false vS vR w1 :=
  ⟨World.grownBy.refl w1 _, fun _ => h, (fun q => Bool.noConfusion q), (fun q => Bool.noConfusion q), (fun q => Bool.noConfusion q), (fun q => Bool.noConfusion q), hB⟩
theorem wpList_made {P : Program} {ops : Array Oper} {Q : Exit → Act → World → Prop} {a : Act} {w w' : World} {rest : List Oper} {o : Oper} (v : Value) (hw : Region.wanted o (yielded ops a.tmps) = true)
    (hrun : (execOp a.eval o).run P w = .ok (.value v) w') (h : wpList P ops Q rest (a.put o.dst v) w') : wpList P ops Q (o :: rest) a w :=
  BigFrame.wpList_want hw fun K hK => by unfold Oper.wp; simp only [hrun]; exact hK _ _ h
theorem wpList_op {P : Program} {ops : Array Oper} {Q : Exit → Act → World → Prop} {a a' : Act} {w w' : World} {rest : List Oper} {o : Oper} (hw : Region.wanted o (yielded ops a.tmps) = true)
    (hrun : ∀ K : Act → World → Prop, K a' w' → o.wp P a w K Q) (h : wpList P ops Q rest a' w') : wpList P ops Q (o :: rest) a w :=
  BigFrame.wpList_want hw fun K hK => hrun K (hK _ _ h)
def tellsV (self R C : Nat) (x : Rp) : Vc := ⟨R, C, self, x.i⟩
def rolesK (self R C : Nat) (l : List Rp) (k : Nat) : List Int := (l.take k).map fun x => roleN self (tellsV self R C x) x
def tellsK (self R C : Nat) (l : List Rp) (k : Nat) : List Vc := (l.take k).map (tellsV self R C)
theorem tk_step {α β : Type} (f : α → β) {l : List α} {k : Nat} {y : α} (h : l[k]? = some y) : (l.take k).map f ++ [f y] = (l.take (k + 1)).map f := by
  rw [List.take_add_one, h]
  simp
theorem tk_len {α β : Type} (f : α → β) {l : List α} {k : Nat} (h : k ≤ l.length) : ((l.take k).map f).length = k := by rw [List.length_map, List.length_take]; omega
/-- The code from a statement on, that is in no loop. -/
def fromC (n : Nat) : Code → Option Code
  | .region id ops d => if id = n then some (.region id ops d) else none
  | .seq x y => match fromC n x with
    | some x' => some (.seq x' y)
    | none => fromC n y
  | .block _ c => fromC n c
  | .scope c => fromC n c
  | _ => none
noncomputable def tail11 (n : Nat) : Code := ((Try.f11.body.bind (fromC n)).getD .skip)
end Go.Proofs.Ytojijeaofkndpaa
