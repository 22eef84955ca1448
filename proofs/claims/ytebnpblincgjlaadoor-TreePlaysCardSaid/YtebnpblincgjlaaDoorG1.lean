import Derived.Laws.CopyOwn
import Derived.Laws.Rows
import Derived.Laws.Tables
import Derived.Deep.MidRow
import Derived.BigFrame
import Derived.Below
import Derived.WalkKit
import Derived.Lib.Hide
import Derived.RegionTactic
set_option linter.unusedSimpArgs false
set_option linter.unusedVariables false
namespace Go.Proofs.YtebnpblincgjlaaDoor
section
open Go.RowKit
def Blk (w : World) (g : Nat) (cs : Array Value) (t : TypeId) : Prop := w.heap[g]? = some (.cells cs t (0, 0))
theorem Blk.set {w : World} {g : Nat} {cs : Array Value} {t : TypeId} (h : Blk w g cs t) (j : Nat) (u : Value) : Blk (w.setCell ⟨g, j, none⟩ u) g (cs.setIfInBounds j u) t := heap_setCell_same w g j cs t u h
theorem Blk.other {w : World} {g : Nat} {cs : Array Value} {t : TypeId} (h : Blk w g cs t) {a : Addr} (ha : a.block ≠ g) (u : Value) : Blk (w.setCell a u) g cs t := (heap_setCell_other w a g u (fun e => ha e.symm)).trans h
theorem Blk.cell {w : World} {g : Nat} {cs : Array Value} {t : TypeId} (h : Blk w g cs t) (j : Nat) : w.cell? ⟨g, j, none⟩ = cs[j]? := cell_of_row w g j cs t (0, 0) h
theorem Blk.free {w : World} {g : Nat} {cs : Array Value} {t : TypeId} (h : Blk w g cs t) (j : Nat) : w.frozen? ⟨g, j, none⟩ = false := frozen_of_row w g j cs t h
theorem Blk.lt {w : World} {g : Nat} {cs : Array Value} {t : TypeId} (h : Blk w g cs t) : g < w.heap.size := by
 rcases Nat.lt_or_ge g w.heap.size with c | c
 ·
  exact c
 ·
  unfold Blk at h
  rw [Array.getElem?_eq_none c] at h
  cases h
theorem Blk.below {w w' : World} {B g : Nat} {cs : Array Value} {t : TypeId} (h : Blk w g cs t) (hb : Below B w w') (hg : g < B) : Blk w' g cs t := (hb.block g hg).trans h
theorem Blk.alloc {w : World} {g : Nat} {cs : Array Value} {t : TypeId} (h : Blk w g cs t) (o : Obj) : Blk (w.alloc o) g cs t := (Below.heap_alloc w o g h.lt).trans h
theorem Blk.new (w : World) (cs : Array Value) (t : TypeId) : Blk (w.alloc (.cells cs t)) w.heap.size cs t := by
 show (w.heap.push _)[w.heap.size]? = _
 simp
theorem Blk.drew {w : World} {g : Nat} {cs : Array Value} {t : TypeId} (h : Blk w g cs t) : Blk w.drew g cs t := h
theorem Blk.row {w : World} {g : Nat} {cs : Array Value} {t : TypeId} (h : Blk w g cs t) (new : Array Value) : Blk (w.setRow g new) g new t := setRow_heap w g cs new t (0, 0) h
theorem Blk.grown {w w' : World} {g : Nat} {cs : Array Value} {t : TypeId} {r : Option Nat} (h : Blk w g cs t) (hg : w.grownBy w' r) (hr : some g ≠ r) : Blk w' g cs t := (hg.block g h.lt hr).trans h
theorem Blk.rowOther {w : World} {g k : Nat} {cs : Array Value} {t : TypeId} (h : Blk w g cs t) (hk : g ≠ k) (new : Array Value) : Blk (w.setRow k new) g cs t := (setRow_other w k g new hk).trans h
theorem results_row_tmp {P : Program} {fn : Func} {p u : Tmp} {ty : TypeId} (h : fn.results = #[.cell p ty, .tmp u]) (tmps : Array Value) (w : World) (g : Nat) (t : TypeId) (cs : Array Value) (v : Value) (d : TypeDesc)
 (hp : tmps.getD p undef = .pointer (some ⟨g, 0, none⟩)) (hv : tmps.getD u undef = v) (hg : Blk w g cs t)
 (hu : P.underlying ty = some d) (hd : (match d with | .struct _ | .array _ _ => true | _ => false) = true) (hi : (P.info? ty).map (·.size) = some cs.size) :
 (results fn tmps).run P w = .ok (.tuple #[.agg cs, v]) w := by
 have hp' : tmps[p]?.getD undef = .pointer (some ⟨g, 0, none⟩) := by simpa using hp
 have hv' : tmps[u]?.getD undef = v := by simpa using hv
 simp [results, h, hp', hv', asAddr, run_loadVar_row w g t ty cs (0, 0) d hg hu hd hi]
theorem run_loadVar_of {P : Program} {o : Oper} {a : Act} {w : World} (ty : TypeId) (x : Operand) (ho : o.op = .load ty x) (g : Nat) (hx : a.eval x = .pointer (some ⟨g, 0, none⟩)) (t : TypeId) (cs : Array Value) (d : TypeDesc) (hg : Blk w g cs t)
 (hu : P.underlying ty = some d) (hd : (match d with | .struct _ | .array _ _ => true | _ => false) = true) (hi : (P.info? ty).map (·.size) = some cs.size) :
 (execOp a.eval o).run P w = .ok (.value (.agg cs)) w := by
 unfold execOp
 simp only [ho, hx, Instr.loadAt, Instr.sureAddr, Sem.run_bind, Sem.run_pure, Result.andThen_ok, run_loadVar_row w g t ty cs (0, 0) d hg hu hd hi]
structure Kn (w0 : World) (l : List (Nat × Array Value × TypeId)) (w : World) : Prop where
 all : ∀ x ∈ l, Blk w x.1 x.2.1 x.2.2
 below : Below w0.heap.size w0 w
section
variable {w0 w w' : World} {l l' : List (Nat × Array Value × TypeId)} {c : Nat} {a : Array Value} {t : TypeId}
theorem Kn.nil (w0 : World) : Kn w0 [] w0 := ⟨fun _ h => (by cases h), Below.refl _ _⟩
theorem Kn.at (h : Kn w0 l w) (i : Nat) {c : Nat} {a : Array Value} {t : TypeId} (e : l[i]? = some (c, a, t)) : Blk w c a t := h.all _ (List.mem_of_getElem? e)
theorem Kn.drew (h : Kn w0 l w) : Kn w0 l w.drew := ⟨fun x hx => (h.all x hx).drew, h.below.drew⟩
theorem Kn.next (h : Kn w0 l w) (hb : Below w.heap.size w w') : Kn w0 l w' := ⟨fun x hx => (h.all x hx).below hb (h.all x hx).lt, h.below.trans (hb.mono h.below.size)⟩
theorem Kn.alloc (h : Kn w0 l w) (a : Array Value) (t : TypeId) : Kn w0 ((w.heap.size, a, t) :: l) (w.alloc (.cells a t)) := by
 refine ⟨fun x hx => ?_, h.below.alloc h.below.size _⟩
 rcases List.mem_cons.1 hx with rfl | hx
 ·
  exact Blk.new _ _ _
 ·
  exact (h.all x hx).alloc _
theorem Kn.row (h : Kn w0 ((c, a, t) :: l) w) (hc : ∀ x ∈ l, x.1 ≠ c) (h0 : w0.heap.size ≤ c) (n : Array Value) : Kn w0 ((c, n, t) :: l) (w.setRow c n) := by
 refine ⟨fun x hx => ?_, below_setRow h.below h0 n⟩
 rcases List.mem_cons.1 hx with rfl | hx
 ·
  exact (h.all (c, a, t) List.mem_cons_self).row n
 ·
  exact (h.all x (List.mem_cons_of_mem _ hx)).rowOther (hc x hx) n
theorem Kn.set (h : Kn w0 ((c, a, t) :: l) w) (hc : ∀ x ∈ l, x.1 ≠ c) (h0 : w0.heap.size ≤ c) (j : Nat) (v : Value) : Kn w0 ((c, a.setIfInBounds j v, t) :: l) (w.setCell ⟨c, j, none⟩ v) := by
 refine ⟨fun x hx => ?_, h.below.setCell h0 _⟩
 rcases List.mem_cons.1 hx with rfl | hx
 ·
  exact (h.all (c, a, t) List.mem_cons_self).set j v
 ·
  exact (h.all x (List.mem_cons_of_mem _ hx)).other (a := ⟨c, j, none⟩) (fun e => hc x hx e.symm) v
theorem Kn.sub (h : Kn w0 l w) (s : ∀ x ∈ l', x ∈ l) : Kn w0 l' w := ⟨fun x hx => h.all x (s x hx), h.below⟩
theorem Kn.size (h : Kn w0 l w) : w0.heap.size ≤ w.heap.size := h.below.size
end
theorem wpList_val {P : Program} {ops : Array Oper} {Q : Exit → Act → World → Prop} {a : Act} {w : World} {rest : List Oper} {o : Oper} (v : Value) (hw : Region.wanted o (yielded ops a.tmps) = true)
 (hrun : (execOp a.eval o).run P w = .ok (.value v) w) (h : wpList P ops Q rest (a.put o.dst v) w) : wpList P ops Q (o :: rest) a w :=
 BigFrame.wpList_want hw fun K hK => by unfold Oper.wp; simp only [hrun]; exact hK _ _ h
theorem run_loadPart_of {P : Program} {o : Oper} {a : Act} {w : World} (ty : TypeId) (x : Operand) (ho : o.op = .load ty x) (g j : Nat) (hx : a.eval x = .pointer (some ⟨g, j, none⟩)) (t : TypeId) (cs : Array Value) (part : List Value) (d : TypeDesc) (hg : Blk w g cs t)
 (hp : ∀ i v, part[i]? = some v → cs[j + i]? = some v)
 (hu : P.underlying ty = some d) (hd : d.isRow = true) (hi : (P.info? ty).map (·.size) = some part.length) :
 (execOp a.eval o).run P w = .ok (.value (.agg part.toArray)) w := by
 unfold execOp
 have hr : w.rangeAt g j part := fun i v hv => by rw [hg.cell]; exact hp i v hv
 simp only [ho, hx, Instr.loadAt, Instr.sureAddr, Sem.run_bind, Sem.run_pure, Result.andThen_ok, run_loadVar_mid w g j ty part d hr hu hd hi]
theorem wp_store_cell {P : Program} {o : Oper} {a : Act} {w : World} {K : Act → World → Prop} {Q : Exit → Act → World → Prop} (ty : TypeId) (x y : Operand) (ho : o.op = .store ty x y)
 (p : Addr) (v : Value) (hx : a.eval x = .pointer (some p)) (hy : a.eval y = v) (hrun : (Instr.storeAt ty (.pointer (some p)) v).run P w = .ok () (w.setCell p v))
 (h : K (a.put o.dst undef) (w.setCell p v)) : o.wp P a w K Q := by
 unfold Oper.wp execOp
 simp only [ho, hx, hy, Sem.run_bind, Sem.run_pure, hrun, Result.andThen_ok]
 exact h
end
section
open Go.RowKit
theorem run_build_of {P : Program} {o : Oper} {a : Act} {w : World} (t : TypeId) (parts : List (Nat × Operand)) (ho : o.op = .build t parts.toArray) (vals : List (Nat × Value)) (arr : Array Value)
 (hv : parts.map (fun x => (x.1, a.eval x.2)) = vals) (hb : P.built t vals = some arr) : (execOp a.eval o).run P w = .ok (.value (.agg arr)) w := by
 subst hv
 have e : (Array.map (fun x => (x.1, a.eval x.2)) parts.toArray).toList = parts.map (fun x => (x.1, a.eval x.2)) := by simp
 rw [← e] at hb
 unfold execOp
 simp only [ho, Sem.run_bind, run_build w t _ arr hb, Result.andThen_ok, Sem.run_pure]
theorem wpList_alloc {P : Program} {ops : Array Oper} {Q : Exit → Act → World → Prop} {a : Act} {w : World} {rest : List Oper} {o : Oper} (t : TypeId) (ho : o.op = .alloc t) (hw : Region.wanted o (yielded ops a.tmps) = true) (z : Array Value)
 (hz : ∀ W : World, (zeroValue t).run P W = .ok (.agg z) W) (h : wpList P ops Q rest (a.put o.dst (.pointer (some ⟨w.heap.size, 0, none⟩))) (w.alloc (.cells z t))) : wpList P ops Q (o :: rest) a w := by
 refine BigFrame.wpList_want hw fun K hK => ?_
 unfold Oper.wp execOp
 simp only [ho, Instr.alloc, Sem.run_bind, hz, Result.andThen_ok, newVar, Sem.run_pure]
 exact hK _ _ h
end
section
open Go.RowKit
structure Kb (w0 : World) (l : List (Nat × Array Value × TypeId)) (w : World) : Prop where
 all : ∀ x ∈ l, Blk w x.1 x.2.1 x.2.2
 below : Below w0.heap.size w0 w
 new : ∀ x ∈ l, w0.heap.size ≤ x.1
 nd : (l.map (·.1)).Nodup
def setL (cs : Array Value) : Nat → List Value → Array Value
 | _, [] => cs
 | o, v :: vs => setL (cs.setIfInBounds o v) (o + 1) vs
theorem Blk.setCells {g : Nat} {t : TypeId} : ∀ (vs : List Value) (o : Nat) (cs : Array Value) (w : World), Blk w g cs t → Blk (w.setCells g o vs) g (setL cs o vs) t
 | [], o, cs, w, h => h
 | v :: vs, o, cs, w, h => Blk.setCells vs (o + 1) (cs.setIfInBounds o v) (w.setCell ⟨g, o, none⟩ v) (h.set o v)
theorem Blk.setCellsOther {g b : Nat} {t : TypeId} (hb : b ≠ g) : ∀ (vs : List Value) (o : Nat) (cs : Array Value) (w : World), Blk w g cs t → Blk (w.setCells b o vs) g cs t
 | [], o, cs, w, h => h
 | v :: vs, o, cs, w, h => Blk.setCellsOther hb vs (o + 1) cs (w.setCell ⟨b, o, none⟩ v) (h.other (a := ⟨b, o, none⟩) hb v)
theorem below_setCells {B : Nat} {w0 : World} {g : Nat} (hg : B ≤ g) : ∀ (vs : List Value) (o : Nat) (w : World), Below B w0 w → Below B w0 (w.setCells g o vs)
 | [], o, w, h => h
 | v :: vs, o, w, h => below_setCells hg vs (o + 1) (w.setCell ⟨g, o, none⟩ v) (h.setCell hg _)
section
variable {w0 w w' : World} {l l' : List (Nat × Array Value × TypeId)} {b i : Nat} {cs cs' : Array Value} {t : TypeId}
theorem Kb.nil (w0 : World) : Kb w0 [] w0 := ⟨fun _ h => (by cases h), Below.refl _ _, fun _ h => (by cases h), List.nodup_nil⟩
theorem Kb.at (K : Kb w0 l w) (e : l[i]? = some (b, cs, t)) : Blk w b cs t := K.all _ (List.mem_of_getElem? e)
theorem Kb.cell (K : Kb w0 l w) (e : l[i]? = some (b, cs, t)) {j : Nat} {v : Value} (hv : cs[j]? = some v) : w.cell? ⟨b, j, none⟩ = some v := by rw [(K.at e).cell j]; exact hv
theorem Kb.next (K : Kb w0 l w) (hb : Below w.heap.size w w') : Kb w0 l w' := ⟨fun x hx => (K.all x hx).below hb (K.all x hx).lt, K.below.trans (hb.mono K.below.size), K.new, K.nd⟩
theorem Kb.drew (K : Kb w0 l w) : Kb w0 l w.drew := ⟨fun x hx => (K.all x hx).drew, K.below.drew, K.new, K.nd⟩
theorem Kb.alloc (K : Kb w0 l w) (cs : Array Value) (t : TypeId) : Kb w0 (l ++ [(w.heap.size, cs, t)]) (w.alloc (.cells cs t)) := by
 refine ⟨fun x hx => ?_, K.below.alloc K.below.size _, fun x hx => ?_, ?_⟩
 ·
  rcases List.mem_append.1 hx with hx | hx
  ·
   exact (K.all x hx).alloc _
  ·
   rw [List.mem_singleton.1 hx]; exact Blk.new _ _ _
 ·
  rcases List.mem_append.1 hx with hx | hx
  ·
   exact K.new x hx
  ·
   rw [List.mem_singleton.1 hx]; exact K.below.size
 ·
  rw [List.map_append, List.nodup_append]
  refine ⟨K.nd, by simp, fun x hx y hy => ?_⟩
  obtain ⟨z, hz, rfl⟩ := List.mem_map.1 hx
  have := (K.all z hz).lt
  simp at hy
  omega
theorem Kb.put (K : Kb w0 l w) (e : l[i]? = some (b, cs, t)) (cs' : Array Value) {w' : World} (h1 : Blk w' b cs' t) (h2 : ∀ x ∈ l, x.1 ≠ b → Blk w x.1 x.2.1 x.2.2 → Blk w' x.1 x.2.1 x.2.2) (h3 : Below w0.heap.size w0 w') : Kb w0 (l.set i (b, cs', t)) w' := by
 have hi := (List.getElem?_eq_some_iff.1 e).1
 have hm : (l.set i (b, cs', t)).map (·.1) = l.map (·.1) := by
  rw [List.map_set]
  refine List.ext_getElem? fun j => ?_
  by_cases c : i = j
  ·
   subst c
   rw [List.getElem?_set_self (by simpa using hi), List.getElem?_map, e]
   rfl
  ·
   rw [List.getElem?_set_ne c]
 have hother : ∀ x ∈ l, x.1 ≠ b → Blk w' x.1 x.2.1 x.2.2 := fun x hx hn => h2 x hx hn (K.all x hx)
 have hin : ∀ x ∈ l.set i (b, cs', t), x = (b, cs', t) ∨ (x ∈ l ∧ x.1 ≠ b) := by
  intro x hx
  obtain ⟨j, hj⟩ := List.getElem?_of_mem hx
  by_cases c : i = j
  ·
   subst c
   rw [List.getElem?_set_self hi] at hj
   injection hj with hj
   exact .inl hj.symm
  ·
   rw [List.getElem?_set_ne c] at hj
   refine .inr ⟨List.mem_of_getElem? hj, fun hx1 => c ?_⟩
   have hjl := (List.getElem?_eq_some_iff.1 hj).1
   have a1 : (l.map (·.1))[i]? = some b := by rw [List.getElem?_map, e]; rfl
   have a2 : (l.map (·.1))[j]? = some b := by rw [List.getElem?_map, hj, ← hx1]; rfl
   exact (List.getElem?_inj (by simpa using hi) K.nd).1 (a1.trans a2.symm)
 refine ⟨fun x hx => ?_, h3, fun x hx => ?_, by rw [hm]; exact K.nd⟩
 ·
  rcases hin x hx with rfl | ⟨hx, hn⟩
  ·
   exact h1
  ·
   exact hother x hx hn
 ·
  rcases hin x hx with rfl | ⟨hx, hn⟩
  ·
   exact K.new (b, cs, t) (List.mem_of_getElem? e)
  ·
   exact K.new x hx
theorem Kb.row (K : Kb w0 l w) (e : l[i]? = some (b, cs, t)) (cs' : Array Value) : Kb w0 (l.set i (b, cs', t)) (w.setRow b cs') :=
 K.put e cs' ((K.at e).row cs') (fun _ _ hn hx => hx.rowOther hn cs') (below_setRow K.below (K.new _ (List.mem_of_getElem? e)) cs')
theorem Kb.set (K : Kb w0 l w) (e : l[i]? = some (b, cs, t)) (j : Nat) (v : Value) : Kb w0 (l.set i (b, cs.setIfInBounds j v, t)) (w.setCell ⟨b, j, none⟩ v) :=
 K.put e _ ((K.at e).set j v) (fun _ _ hn hx => hx.other (a := ⟨b, j, none⟩) (fun h => hn h.symm) v) (K.below.setCell (K.new _ (List.mem_of_getElem? e)) _)
theorem Kb.mid (K : Kb w0 l w) (e : l[i]? = some (b, cs, t)) (o : Nat) (vs : List Value) : Kb w0 (l.set i (b, setL cs o vs, t)) (w.setCells b o vs) :=
 K.put e _ (Blk.setCells vs o cs w (K.at e)) (fun x _ hn hx => Blk.setCellsOther (fun h => hn h.symm) vs o x.2.1 w hx) (below_setCells (K.new _ (List.mem_of_getElem? e)) vs o w K.below)
theorem Blk.thereN {w : World} {g : Nat} {cs : Array Value} {t : TypeId} (h : Blk w g cs t) (o n : Nat) (hn : o + n ≤ cs.size) : w.there g o n := fun j hj => ⟨by rw [h.cell]; simp; omega, h.free _⟩
end
section
variable {P : Program} {ops : Array Oper} {Q : Exit → Act → World → Prop} {a : Act} {w w0 : World} {rest : List Oper} {o : Oper} {l : List (Nat × Array Value × TypeId)} {b i : Nat} {cs : Array Value} {t : TypeId}
theorem kb_box (K : Kb w0 l w) (ty : TypeId) (x : Operand) (cs : Array Value) (ho : o.op = .box ty x) (hx : a.eval x = .agg cs) (hw : Region.wanted o (yielded ops a.tmps) = true)
 (h : ∀ b w', b = w.heap.size → Kb w0 (l ++ [(b, cs, ty)]) w' → wpList P ops Q rest (a.put o.dst (.pointer (some ⟨b, 0, none⟩))) w') : wpList P ops Q (o :: rest) a w := by
 refine BigFrame.wpList_want hw fun K' hK => ?_
 unfold Oper.wp execOp
 simp only [ho, hx, Instr.box, Sem.run_bind, newVar, Sem.run_pure]
 exact hK _ _ (h _ _ rfl (K.alloc cs ty))
theorem kb_alloc (K : Kb w0 l w) (ty : TypeId) (z : Array Value) (ho : o.op = .alloc ty) (hz : ∀ W : World, (zeroValue ty).run P W = .ok (.agg z) W) (hw : Region.wanted o (yielded ops a.tmps) = true)
 (h : ∀ b w', b = w.heap.size → Kb w0 (l ++ [(b, z, ty)]) w' → wpList P ops Q rest (a.put o.dst (.pointer (some ⟨b, 0, none⟩))) w') : wpList P ops Q (o :: rest) a w := by
 refine BigFrame.wpList_want hw fun K' hK => ?_
 unfold Oper.wp execOp
 simp only [ho, Instr.alloc, Sem.run_bind, hz, Result.andThen_ok, newVar, Sem.run_pure]
 exact hK _ _ (h _ _ rfl (K.alloc z ty))
theorem kb_row (K : Kb w0 l w) (i : Nat) (e : l[i]? = some (b, cs, t)) (ty : TypeId) (x y : Operand) (cs' : Array Value) (ho : o.op = .store ty x y) (hg : o.guard = none) (hx : a.eval x = .pointer (some ⟨b, 0, none⟩)) (hy : a.eval y = .agg cs')
 (hi : (P.info? ty).map (·.size) = some cs'.size) (hs : cs.size = cs'.size) (h1 : cs'.all (·.oneCell') = true)
 (h : ∀ w', Kb w0 (l.set i (b, cs', t)) w' → wpList P ops Q rest (a.put o.dst undef) w') : wpList P ops Q (o :: rest) a w :=
 wpList_store_row hg ty x y ho b cs' hx hy t cs (K.at e) hi hs h1 (h _ (K.row e cs'))
theorem kb_mid (K : Kb w0 l w) (i : Nat) (e : l[i]? = some (b, cs, t)) (ty : TypeId) (x y : Operand) (j : Nat) (part : Array Value) (ho : o.op = .store ty x y) (hg : o.guard = none) (hx : a.eval x = .pointer (some ⟨b, j, none⟩)) (hy : a.eval y = .agg part)
 (hi : (P.info? ty).map (·.size) = some part.size) (hs : j + part.size ≤ cs.size) (h1 : part.all (·.oneCell') = true) (cs' : Array Value) (hc : setL cs j part.toList = cs')
 (h : ∀ w', Kb w0 (l.set i (b, cs', t)) w' → wpList P ops Q rest (a.put o.dst undef) w') : wpList P ops Q (o :: rest) a w :=
 wpList_store_mid hg ty x y ho b j part hx hy ((K.at e).thereN j part.size hs) hi h1 (h _ (by rw [← hc]; exact K.mid e j part.toList))
theorem kb_set (K : Kb w0 l w) (i : Nat) (e : l[i]? = some (b, cs, t)) (ty : TypeId) (x y : Operand) (j : Nat) (v : Value) (ho : o.op = .store ty x y) (hw : Region.wanted o (yielded ops a.tmps) = true) (hx : a.eval x = .pointer (some ⟨b, j, none⟩)) (hy : a.eval y = v)
 (hrun : (Instr.storeAt ty (.pointer (some ⟨b, j, none⟩)) v).run P w = .ok () (w.setCell ⟨b, j, none⟩ v)) (cs' : Array Value) (hc : cs.setIfInBounds j v = cs')
 (h : ∀ w', Kb w0 (l.set i (b, cs', t)) w' → wpList P ops Q rest (a.put o.dst undef) w') : wpList P ops Q (o :: rest) a w :=
 BigFrame.wpList_want hw fun K' hK => wp_store_cell ty x y ho ⟨b, j, none⟩ v hx hy hrun (hK _ _ (h _ (by rw [← hc]; exact K.set e j v)))
theorem kb_run_set (K : Kb w0 l w) (e : l[i]? = some (b, cs, t)) (ty : TypeId) (j : Nat) (u v : Value) (hu : cs[j]? = some u) (h : ∀ W : World, W.cell? ⟨b, j, none⟩ = some u → W.frozen? ⟨b, j, none⟩ = false → (Instr.storeAt ty (.pointer (some ⟨b, j, none⟩)) v).run P W = .ok () (W.setCell ⟨b, j, none⟩ v)) :
 (Instr.storeAt ty (.pointer (some ⟨b, j, none⟩)) v).run P w = .ok () (w.setCell ⟨b, j, none⟩ v) := h w (K.cell e hu) ((K.at e).free j)
theorem kb_call (K : Kb w0 l w) (f : FuncId) (args : Array Value) (v : Value) (hw : Region.wanted o (yielded ops a.tmps) = true) (hv : (execOp a.eval o).run P w = .ok (.enter f args) w)
 (hc : Calls P f args w fun e w' => e = .returned v ∧ Below w.heap.size w w') (h : ∀ w', Kb w0 l w' → wpList P ops Q rest (a.put o.dst v) w') : wpList P ops Q (o :: rest) a w :=
 BigFrame.wpList_want hw fun K' hK => by
  unfold Oper.wp
  simp only [hv, Oper.upon]
  exact hc.mono fun e w' ⟨he, hb⟩ => by subst he; exact hK _ _ (h w' (K.next hb))
theorem kb_all (K : Kb w0 l w) (i : Nat) (e : l[i]? = some (b, cs, t)) (ty : TypeId) (x : Operand) (ho : o.op = .load ty x) (hx : a.eval x = .pointer (some ⟨b, 0, none⟩)) {d : TypeDesc} (hu : P.underlying ty = some d)
 (hd : (match d with | .struct _ | .array _ _ => true | _ => false) = true) (hi : (P.info? ty).map (·.size) = some cs.size) : (execOp a.eval o).run P w = .ok (.value (.agg cs)) w :=
 run_loadVar_of ty x ho b hx t cs d (K.at e) hu hd hi
theorem kb_part (K : Kb w0 l w) (i : Nat) (e : l[i]? = some (b, cs, t)) (ty : TypeId) (x : Operand) (j : Nat) (part : List Value) (ho : o.op = .load ty x) (hx : a.eval x = .pointer (some ⟨b, j, none⟩)) (hp : ∀ k v, part[k]? = some v → cs[j + k]? = some v) {d : TypeDesc}
 (hu : P.underlying ty = some d) (hd : d.isRow = true) (hi : (P.info? ty).map (·.size) = some part.length) : (execOp a.eval o).run P w = .ok (.value (.agg part.toArray)) w :=
 run_loadPart_of ty x ho b j hx t cs part d (K.at e) hp hu hd hi
theorem part_of {cs : Array Value} {o : Nat} {part : List Value} (h : (cs.toList.drop o).take part.length = part) : ∀ k v, part[k]? = some v → cs[o + k]? = some v := fun k v hv => by
 have hk : k < part.length := (List.getElem?_eq_some_iff.1 hv).1
 rw [← h, List.getElem?_take_of_lt hk, List.getElem?_drop] at hv
 simpa using hv
theorem run_pick_no {P : Program} {o : Oper} {a : Act} {w : World} (c x y : Operand) (v : Value) (ho : o.op = .pick c x y) (hc : a.eval c = .bool false) (hy : a.eval y = v) : (execOp a.eval o).run P w = .ok (.value v) w := by
 unfold execOp
 simp only [ho, hc, hy]
 simp [asBool, Sem.run_pure, Result.andThen_ok]
theorem run_pick_yes {P : Program} {o : Oper} {a : Act} {w : World} (c x y : Operand) (v : Value) (ho : o.op = .pick c x y) (hc : a.eval c = .bool true) (hy : a.eval x = v) : (execOp a.eval o).run P w = .ok (.value v) w := by
 unfold execOp
 simp only [ho, hc, hy]
 simp [asBool, Sem.run_pure, Result.andThen_ok]
end
end
section
open Go.RowKit
def upd (L : Nat → Bool) (i j : Nat) : Bool := if j = i then true else L j
def afters (ops : Array Oper) (i : Nat) : List Nat :=
 match ops[i]? with
 | some o => (o.after.toList.filter (Region.binds .any)).map (·.on)
 | none => []
def dag (ops : Array Oper) : Bool := (List.range ops.size).all fun i => (afters ops i).all fun j => decide (j < i)
section
variable {P : Program} {ops : Array Oper} {Q : Exit → Act → World → Prop}
def lis (l : Array Bool) (j : Nat) : Bool := l.getD j false
theorem lis_set {l : Array Bool} {i : Nat} (h : i < l.size) : lis (l.setIfInBounds i true) = upd (lis l) i := by
 funext j
 unfold lis upd
 by_cases c : j = i
 ·
  subst c
  simp [h]
 ·
  rw [if_neg c]
  simp only [Array.getD_eq_getD_getElem?]
  rw [Array.getElem?_setIfInBounds_ne (by omega)]
theorem count_set {l : Array Bool} {i : Nat} (h : i < l.size) (hf : lis l i = false) : (l.setIfInBounds i true).toList.count false + 1 = l.toList.count false := by
 have hl : i < l.toList.length := by simpa using h
 have hv : l.toList[i] = false := by
  unfold lis at hf
  simpa [h] using hf
 rw [Array.toList_setIfInBounds, List.count_set hl, hv]
 have : 0 < l.toList.count false := List.count_pos_iff.2 (by rw [← hv]; exact List.getElem_mem hl)
 have a1 : (if (false == false) = true then 1 else 0) = 1 := by decide
 have a2 : (if (true == false) = true then 1 else 0) = 0 := by decide
 rw [a1, a2]
 omega
theorem mem_afters {i : Nat} {o : Oper} (ho : ops[i]? = some o) (j : Nat) : j ∈ afters ops i ↔ ∃ e ∈ o.after, Region.binds .any e = true ∧ e.on = j := by
 unfold afters
 rw [ho]
 simp [and_assoc]
theorem dag_at (hd : dag ops = true) {i : Nat} (hi : i < ops.size) {j : Nat} (hj : j ∈ afters ops i) : j < i := by
 unfold dag at hd
 rw [List.all_eq_true] at hd
 have h1 := hd i (List.mem_range.2 hi)
 rw [List.all_eq_true] at h1
 simpa using h1 j hj
theorem all_of_none (hd : dag ops = true) {l : Array Bool} (hl : l.size = ops.size) (hr : Region.ready .any ops l = []) : ∀ i, i < ops.size → lis l i = true := by
 intro i
 induction i using Nat.strongRecOn with
 | _ i ih =>
  intro hi
  cases hc : lis l i with
  | true => rfl
  | false =>
   have : i ∈ Region.ready .any ops l := by
    rw [mem_ready]
    refine ⟨?_, ops[i], Array.getElem?_eq_getElem hi, fun e he hb => ?_⟩
    ·
     unfold lis at hc
     simpa [hl, hi] using hc
    ·
     have hj : e.on ∈ afters ops i := (mem_afters (Array.getElem?_eq_getElem hi) _).2 ⟨e, he, hb, rfl⟩
     have hlt := dag_at hd hi hj
     exact ih e.on hlt (by omega)
   rw [hr] at this
   cases this
theorem wpAny_inv (I : (Nat → Bool) → Act → World → Prop) (hd : dag ops = true)
 (hstep : ∀ i, i < ops.size → ∀ L a w, I L a w → L i = false → (∀ j ∈ afters ops i, L j = true) → wpOp P ops Q i (fun a' w' => I (upd L i) a' w') a w)
 (hend : ∀ L a w, I L a w → (∀ i, i < ops.size → L i = true) → Q .normal a w) :
 ∀ fuel (l : Array Bool) a w, l.size = ops.size → l.toList.count false ≤ fuel → I (lis l) a w → wpAny P .any ops Q fuel l a w := by
 intro fuel
 induction fuel with
 | zero =>
  intro l a w hl hc hI
  have hall : ∀ i, i < ops.size → lis l i = true := by
   intro i hi
   cases hv : lis l i with
   | true => rfl
   | false =>
    have := count_set (l := l) (by omega) hv
    omega
  refine ⟨?_, hend _ _ _ hI hall⟩
  cases hr : Region.ready .any ops l with
  | nil => rfl
  | cons i r =>
   have hm : i ∈ Region.ready .any ops l := by rw [hr]; exact List.mem_cons_self
   obtain ⟨h1, o, ho, -⟩ := mem_ready.1 hm
   have hi := (Array.getElem?_eq_some_iff.1 ho).1
   have h2 := hall i hi
   unfold lis at h2
   simp [hl, hi] at h1 h2
   rw [h1] at h2
   cases h2
 | succ fuel ih =>
  intro l a w hl hc hI
  refine ⟨fun hr => hend _ _ _ hI (all_of_none hd hl hr), fun i hm => ?_⟩
  obtain ⟨h1, o, ho, h2⟩ := mem_ready.1 hm
  have hi := (Array.getElem?_eq_some_iff.1 ho).1
  have hf : lis l i = false := by
   unfold lis
   simpa [hl, hi] using h1
  refine wpOp_mono (fun a' w' hI' => ?_) (hstep i hi (lis l) a w hI hf (fun j hj => ?_))
  ·
   refine ih _ a' w' (by simpa using hl) ?_ ?_
   ·
    have := count_set (l := l) (by omega) hf
    omega
   ·
    rw [lis_set (by omega)]
    exact hI'
  ·
   obtain ⟨e, he, hb, rfl⟩ := (mem_afters ho j).1 hj
   exact h2 e he hb
theorem wp_region_inv {id : Nat} {a : Act} {w : World} (I : (Nat → Bool) → Act → World → Prop) (hm : P.follows .mixedOrders = true) (hd : dag ops = true) (h0 : I (fun _ => false) a w.drew)
 (hstep : ∀ i, i < ops.size → ∀ L a w, I L a w → L i = false → (∀ j ∈ afters ops i, L j = true) → wpOp P ops Q i (fun a' w' => I (upd L i) a' w') a w)
 (hend : ∀ L a w, I L a w → (∀ i, i < ops.size → L i = true) → Q .normal a w) : (Code.region id ops true).wp P Q a w := by
 refine wp_region_any hm (wpAny_inv I hd hstep hend ops.size _ a _ (by simp) (by simp) ?_)
 have e : lis (Array.replicate ops.size false) = fun _ => false := by
  funext j
  unfold lis
  by_cases c : j < ops.size <;> simp [c]
 rw [e]
 exact h0
variable {i : Nat} {o : Oper} {a : Act} {w : World} {K : Act → World → Prop}
theorem i_val (ho : ops[i]? = some o) (v : Value) (w' : World) (hw : Region.wanted o (yielded ops a.tmps) = true) (hv : (execOp a.eval o).run P w = .ok (.value v) w') (h : K (a.put o.dst v) w') : wpOp P ops Q i K a w := by
 unfold wpOp
 simp only [ho, hw, if_true, Oper.wp, hv, Oper.upon]
 exact .inl h
theorem i_call (ho : ops[i]? = some o) (v : Value) (f : FuncId) (args : Array Value) (R : World → Prop) (hw : Region.wanted o (yielded ops a.tmps) = true) (hv : (execOp a.eval o).run P w = .ok (.enter f args) w)
 (hc : Calls P f args w fun e w' => e = .returned v ∧ R w') (h : ∀ w', R w' → K (a.put o.dst v) w') : wpOp P ops Q i K a w := by
 unfold wpOp
 simp only [ho, hw, if_true, Oper.wp, hv, Oper.upon]
 exact .inl (hc.mono fun e w' ⟨he, hr⟩ => by subst he; exact h w' hr)
theorem i_wp (ho : ops[i]? = some o) (hw : Region.wanted o (yielded ops a.tmps) = true) (h : o.wp P a w K Q) : wpOp P ops Q i K a w := by
 unfold wpOp
 simp only [ho, hw, if_true]
 exact .inl h
end
end
section
open Go.RowKit
def PtrAt (B : Nat) (t : TypeId) (n : Nat) (w : World) (v : Value) (done : Bool) (x : Array Value) : Prop := ∃ c cs, v = .pointer (some ⟨c, 0, none⟩) ∧ B ≤ c ∧ cs.size = n ∧ Blk w c cs t ∧ (done = true → cs = x)
section
variable {B n : Nat} {t : TypeId} {w w' : World} {v : Value} {done : Bool} {x : Array Value}
theorem PtrAt.below (h : PtrAt B t n w v done x) (hb : Below w.heap.size w w') : PtrAt B t n w' v done x := by
 obtain ⟨c, cs, e, hB, hz, hk, hd⟩ := h
 exact ⟨c, cs, e, hB, hz, hk.below hb hk.lt, hd⟩
theorem PtrAt.rowOther {c : Nat} (h : PtrAt B t n w v done x) (hc : v ≠ .pointer (some ⟨c, 0, none⟩)) {m : Array Value} : PtrAt B t n (w.setRow c m) v done x := by
 obtain ⟨k, cs, e, hB, hz, hk, hd⟩ := h
 exact ⟨k, cs, e, hB, hz, hk.rowOther (fun e2 => hc (by rw [e, e2])) m, hd⟩
theorem PtrAt.old (h : PtrAt B t n w v done x) : v ≠ .pointer (some ⟨w.heap.size, 0, none⟩) := by
 obtain ⟨k, cs, rfl, hB, hz, hk, hd⟩ := h
 intro e
 have := hk.lt
 simp at e
end
structure W3 (w1 : World) (t : TypeId) (n : Nat) (x y z : Array Value) (a b c p q r : Bool) (v7 v8 v9 : Value) (w : World) : Prop where
 from1 : Below w1.heap.size w1 w
 p7 : a = true → PtrAt w1.heap.size t n w v7 p x
 p8 : b = true → PtrAt w1.heap.size t n w v8 q y
 p9 : c = true → PtrAt w1.heap.size t n w v9 r z
 d78 : a = true → b = true → v7 ≠ v8
 d79 : a = true → c = true → v7 ≠ v9
 d89 : b = true → c = true → v8 ≠ v9
 o7 : p = true → a = true
 o8 : q = true → b = true
 o9 : r = true → c = true
section
variable {w1 w w' : World} {t : TypeId} {n : Nat} {x y z nil : Array Value} {a b c p q r : Bool} {v7 v8 v9 : Value} {g : Nat} {cs : Array Value}
theorem W3.start (w : World) : W3 w t n x y z false false false false false false v7 v8 v9 w.drew :=
 ⟨(Below.refl _ _).drew, (fun h => Bool.noConfusion h), (fun h => Bool.noConfusion h), (fun h => Bool.noConfusion h), (fun h => Bool.noConfusion h), (fun h => Bool.noConfusion h), (fun h => Bool.noConfusion h), (fun h => Bool.noConfusion h), (fun h => Bool.noConfusion h), (fun h => Bool.noConfusion h)⟩
theorem W3.next (h : W3 w1 t n x y z a b c p q r v7 v8 v9 w) (hb : Below w.heap.size w w') : W3 w1 t n x y z a b c p q r v7 v8 v9 w' :=
 ⟨h.from1.trans (hb.mono h.from1.size), fun hu => (h.p7 hu).below hb, fun hu => (h.p8 hu).below hb, fun hu => (h.p9 hu).below hb, h.d78, h.d79, h.d89, h.o7, h.o8, h.o9⟩
theorem W3.alloc7 (h : W3 w1 t n x y z a b c p q r v7 v8 v9 w) (hn : nil.size = n) (hl : a = false) : W3 w1 t n x y z true b c p q r (.pointer (some ⟨w.heap.size, 0, none⟩)) v8 v9 (w.alloc (.cells nil t)) :=
 ⟨h.from1.alloc h.from1.size _, fun _ => ⟨w.heap.size, nil, rfl, h.from1.size, hn, Blk.new w nil t, fun hd => by rw [h.o7 hd] at hl; cases hl⟩, fun hu => (h.p8 hu).below ((Below.refl _ _).alloc (Nat.le_refl _) _), fun hu => (h.p9 hu).below ((Below.refl _ _).alloc (Nat.le_refl _) _), fun _ hu => fun e => (h.p8 hu).old e.symm, fun _ hu => fun e => (h.p9 hu).old e.symm, h.d89, fun _ => rfl, h.o8, h.o9⟩
theorem W3.store7 (h : W3 w1 t n x y z a b c p q r (.pointer (some ⟨g, 0, none⟩)) v8 v9 w) (ha : a = true) (hx : x.size = n) (hk : Blk w g cs t) (hc : w1.heap.size ≤ g) : W3 w1 t n x y z a b c true q r (.pointer (some ⟨g, 0, none⟩)) v8 v9 (w.setRow g x) :=
 ⟨below_setRow h.from1 hc _, fun _ => ⟨g, x, rfl, hc, hx, hk.row _, fun _ => rfl⟩, fun hu => (h.p8 hu).rowOther (fun e => h.d78 ha hu e.symm), fun hu => (h.p9 hu).rowOther (fun e => h.d79 ha hu e.symm), h.d78, h.d79, h.d89, fun _ => ha, h.o8, h.o9⟩
end
end
section
open Go.RowKit
structure W2 (w1 : World) (t t' : TypeId) (n n' : Nat) (x y : Array Value) (a b p q : Bool) (v7 v8 : Value) (w : World) : Prop where
 from1 : Below w1.heap.size w1 w
 p7 : a = true → PtrAt w1.heap.size t n w v7 p x
 p8 : b = true → PtrAt w1.heap.size t' n' w v8 q y
 d78 : a = true → b = true → v7 ≠ v8
 o7 : p = true → a = true
 o8 : q = true → b = true
section
variable {w1 w w' : World} {t t' : TypeId} {n n' : Nat} {x y nil : Array Value} {a b p q : Bool} {v7 v8 : Value} {g : Nat} {cs : Array Value}
theorem W2.start (w : World) : W2 w t t' n n' x y false false false false v7 v8 w.drew :=
 ⟨(Below.refl _ _).drew, (fun h => Bool.noConfusion h), (fun h => Bool.noConfusion h), (fun h => Bool.noConfusion h), (fun h => Bool.noConfusion h), (fun h => Bool.noConfusion h)⟩
theorem W2.next (h : W2 w1 t t' n n' x y a b p q v7 v8 w) (hb : Below w.heap.size w w') : W2 w1 t t' n n' x y a b p q v7 v8 w' :=
 ⟨h.from1.trans (hb.mono h.from1.size), fun hu => (h.p7 hu).below hb, fun hu => (h.p8 hu).below hb, h.d78, h.o7, h.o8⟩
theorem W2.alloc7 (h : W2 w1 t t' n n' x y a b p q v7 v8 w) (hn : nil.size = n) (hl : a = false) : W2 w1 t t' n n' x y true b p q (.pointer (some ⟨w.heap.size, 0, none⟩)) v8 (w.alloc (.cells nil t)) :=
 ⟨h.from1.alloc h.from1.size _, fun _ => ⟨w.heap.size, nil, rfl, h.from1.size, hn, Blk.new w nil t, fun hd => by rw [h.o7 hd] at hl; cases hl⟩, fun hu => (h.p8 hu).below ((Below.refl _ _).alloc (Nat.le_refl _) _), fun _ hu e => (h.p8 hu).old e.symm, fun hd => rfl, h.o8⟩
theorem W2.store7 (h : W2 w1 t t' n n' x y a b p q (.pointer (some ⟨g, 0, none⟩)) v8 w) (ha : a = true) (hx : x.size = n) (hk : Blk w g cs t) (hc : w1.heap.size ≤ g) : W2 w1 t t' n n' x y a b true q (.pointer (some ⟨g, 0, none⟩)) v8 (w.setRow g x) :=
 ⟨below_setRow h.from1 hc _, fun _ => ⟨g, x, rfl, hc, hx, hk.row _, fun _ => rfl⟩, fun hu => (h.p8 hu).rowOther (fun e => h.d78 ha hu e.symm), h.d78, fun _ => ha, h.o8⟩
end
theorem kb_add {w0 w : World} {l : List (Nat × Array Value × TypeId)} {b : Nat} {cs : Array Value} {t : TypeId} (K : Kb w0 l w) (hk : Blk w b cs t) (hf : ∀ x ∈ l, x.1 ≠ b) (h0 : w0.heap.size ≤ b) : Kb w0 (l ++ [(b, cs, t)]) w := by
 refine ⟨fun x hx => ?_, K.below, fun x hx => ?_, ?_⟩
 ·
  rcases List.mem_append.1 hx with hx | hx
  ·
   exact K.all x hx
  ·
   rw [List.mem_singleton.1 hx]; exact hk
 ·
  rcases List.mem_append.1 hx with hx | hx
  ·
   exact K.new x hx
  ·
   rw [List.mem_singleton.1 hx]; exact h0
 ·
  rw [List.map_append, List.nodup_append]
  refine ⟨K.nd, by simp, fun x hx y hy => ?_⟩
  obtain ⟨z, hz, rfl⟩ := List.mem_map.1 hx
  have := hf z hz
  simp at hy
  omega
theorem cast_blk {w0 w : World} {l l' : List (Nat × Array Value × TypeId)} (K : Kb w0 l w) (e : l = l') : Kb w0 l' w := e ▸ K
theorem i_not {P : Program} {ops : Array Oper} {Q : Exit → Act → World → Prop} {i : Nat} {o : Oper} {a : Act} {w : World} {K : Act → World → Prop} (ho : ops[i]? = some o) (hw : Region.wanted o (yielded ops a.tmps) = false) (h : K (a.put o.dst undef) w) : wpOp P ops Q i K a w := by
 unfold wpOp
 simp [ho, hw]
 exact h
end
section
open Go.RowKit
def reach (ops : Array Oper) : Nat → List Nat → List Nat
 | 0, S => S
 | k + 1, S => reach ops k (S ++ S.flatMap (afters ops))
def covers (ops : Array Oper) (n : Nat) : Bool := ops.size == n + 1 && (List.range n).all fun i => (reach ops n (afters ops n)).contains i
theorem reach_true {ops : Array Oper} {L : Nat → Bool} (hd : ∀ i, L i = true → ∀ j ∈ afters ops i, L j = true) : ∀ (k : Nat) (S : List Nat), (∀ j ∈ S, L j = true) → ∀ j ∈ reach ops k S, L j = true
 | 0, S, h => h
 | k + 1, S, h => by
  unfold reach
  refine reach_true hd k _ (fun j hj => ?_)
  rcases List.mem_append.1 hj with hj | hj
  ·
   exact h j hj
  ·
   obtain ⟨i, hi, hji⟩ := List.mem_flatMap.1 hj
   exact hd i (h i hi) j hji
section
variable {P : Program} {ops : Array Oper} {Q : Exit → Act → World → Prop}
theorem i_skip {i : Nat} {o : Oper} {a : Act} {w : World} {K : Act → World → Prop} (ho : ops[i]? = some o) (w' : World) (hw : Region.wanted o (yielded ops a.tmps) = true) (hv : (execOp a.eval o).run P w = .ok .skip w') (h : K (a.put o.dst undef) w') : wpOp P ops Q i K a w := by
 unfold wpOp
 simp only [ho, hw, if_true, Oper.wp, hv, Oper.upon]
 exact .inl h
end
end
section
open Go.RowKit
theorem wp_region_inv_dc {P : Program} {ops : Array Oper} {Q : Exit → Act → World → Prop} {id : Nat} {a : Act} {w : World} (I : (Nat → Bool) → Act → World → Prop) (hm : P.follows .mixedOrders = true) (hd : dag ops = true) (h0 : I (fun _ => false) a w.drew)
 (hstep : ∀ i, i < ops.size → ∀ L a w, I L a w → L i = false → (∀ j ∈ afters ops i, L j = true) → (∀ i, L i = true → ∀ j ∈ afters ops i, L j = true) → wpOp P ops Q i (fun a' w' => I (upd L i) a' w') a w)
 (hend : ∀ L a w, I L a w → (∀ i, i < ops.size → L i = true) → Q .normal a w) : (Code.region id ops true).wp P Q a w := by
 refine wp_region_inv (I := fun L a w => (∀ i, L i = true → ∀ j ∈ afters ops i, L j = true) ∧ I L a w) hm hd ⟨fun i h => Bool.noConfusion h, h0⟩ ?_ (fun L a w h => hend L a w h.2)
 intro i hi L a w ⟨hdc, hI⟩ hL haft
 refine wpOp_mono (fun a' w' hq => ⟨fun k hk j hj => ?_, hq⟩) (hstep i hi L a w hI hL haft hdc)
 have base : L j = true := by
  by_cases c : k = i
  ·
   exact haft j (c ▸ hj)
  ·
   unfold upd at hk
   rw [if_neg c] at hk
   exact hdc k hk j hj
 unfold upd
 split
 ·
  rfl
 ·
  exact base
end
section
open Go.RowKit
theorem map_congr_arr {α β : Type} {f g : α → β} {l : Array α} (h : ∀ x ∈ l, f x = g x) : l.map f = l.map g := Array.map_congr_left h
theorem exec_congr {ρ ρ' : Operand → Value} {o : Oper} (hs : ∀ cs b, o.op ≠ .select cs b) (h : ∀ x ∈ o.op.operands, ρ x = ρ' x) : execOp ρ o = execOp ρ' o := by
 obtain ⟨dst, op, type, pos, after, guard⟩ := o
 replace hs : ∀ cs b, op ≠ .select cs b := hs
 replace h : ∀ x ∈ op.operands, ρ x = ρ' x := h
 cases op
 case build t ps =>
  have e : (ps.map fun (i, x) => (i, ρ x)) = ps.map fun (i, x) => (i, ρ' x) := by
   refine map_congr_arr fun y hy => ?_
   obtain ⟨i, x⟩ := y
   have := h x (by simp [Op.operands]; exact ⟨i, hy⟩)
   simp [this]
  simp only [execOp, e]
 case buildSlice t n ps =>
  have e : (ps.map fun (i, x) => (i, ρ x)) = ps.map fun (i, x) => (i, ρ' x) := by
   refine map_congr_arr fun y hy => ?_
   obtain ⟨i, x⟩ := y
   have := h x (by simp [Op.operands]; exact ⟨i, hy⟩)
   simp [this]
  simp only [execOp, e]
 case makeFunc fn a b =>
  have e1 : a.map ρ = a.map ρ' := map_congr_arr fun x hx => h x (by simp [Op.operands, hx])
  have e2 : b.map ρ = b.map ρ' := map_congr_arr fun x hx => h x (by simp [Op.operands, hx])
  simp only [execOp, e1, e2]
 case makeMap t r =>
  cases r with
  | none => rfl
  | some r => have := h r (by simp [Op.operands]); simp [execOp, this]
 case slice t x lo hi mx =>
  have e0 := h x (by simp [Op.operands])
  have e1 : lo.map ρ = lo.map ρ' := by cases lo with | none => rfl | some r => simp [h r (by simp [Op.operands])]
  have e2 : hi.map ρ = hi.map ρ' := by cases hi with | none => rfl | some r => simp [h r (by simp [Op.operands])]
  have e3 : mx.map ρ = mx.map ρ' := by cases mx with | none => rfl | some r => simp [h r (by simp [Op.operands])]
  simp only [execOp, e0, e1, e2, e3]
 case call c =>
  have e : ∀ t, resolve ρ c t = resolve ρ' c t := fun t => by
   have e1 : c.args.map ρ = c.args.map ρ' := map_congr_arr fun x hx => h x (by simp [Op.operands, Call.operands, hx])
   unfold resolve
   cases hc : c.callee with
   | value f => simp [e1, h f (by simp [Op.operands, Call.operands, hc])]
   | invoke r m => simp [e1, h r (by simp [Op.operands, Call.operands, hc])]
   | builtin b => simp [e1]
  simp only [execOp, e]
 case go c =>
  have e : ∀ t, resolve ρ c t = resolve ρ' c t := fun t => by
   have e1 : c.args.map ρ = c.args.map ρ' := map_congr_arr fun x hx => h x (by simp [Op.operands, Call.operands, hx])
   unfold resolve
   cases hc : c.callee with
   | value f => simp [e1, h f (by simp [Op.operands, Call.operands, hc])]
   | invoke r m => simp [e1, h r (by simp [Op.operands, Call.operands, hc])]
   | builtin b => simp [e1]
  simp only [execOp, e]
 case defer c =>
  have e : ∀ t, resolve ρ c t = resolve ρ' c t := fun t => by
   have e1 : c.args.map ρ = c.args.map ρ' := map_congr_arr fun x hx => h x (by simp [Op.operands, Call.operands, hx])
   unfold resolve
   cases hc : c.callee with
   | value f => simp [e1, h f (by simp [Op.operands, Call.operands, hc])]
   | invoke r m => simp [e1, h r (by simp [Op.operands, Call.operands, hc])]
   | builtin b => simp [e1]
  simp only [execOp, e]
 case select cs b => exact absurd rfl (hs cs b)
 all_goals
  simp [Op.operands] at h
  simp [execOp, h]
end
end Go.Proofs.YtebnpblincgjlaaDoor
