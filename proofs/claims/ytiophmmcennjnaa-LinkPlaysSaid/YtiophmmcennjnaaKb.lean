/- Blocks that a function makes, known whole, as a list in the order in which they are made; one law for each kind of operation of a region in the text's order; with no program in sight. -/
import Derived.Test.YtiophmmcennjnaaBld
import Derived.Deep.MidRow
namespace Go.Proofs.Ytiophmmcennjnaa
open Go.RowKit
set_option linter.unusedVariables false
set_option linter.unusedSimpArgs false

structure Kb (w0 : World) (l : List (Nat × Array Value × TypeId)) (w : World) : Prop where
  all : ∀ x ∈ l, Blk w x.1 x.2.1 x.2.2
  below : Below w0.heap.size w0 w
  new : ∀ x ∈ l, w0.heap.size ≤ x.1
  nd : (l.map (·.1)).Nodup
/-- Some cells of a row are others. -/
def setL (cs : Array Value) : Nat → List Value → Array Value
  | _, [] => cs
  | o, v :: vs => setL (cs.setIfInBounds o v) (o + 1) vs
theorem Blk.setCells {g : Nat} {t : TypeId} : ∀ (vs : List Value) (o : Nat) (cs : Array Value) (w : World), Blk w g cs t → Blk (w.setCells g o vs) g (setL cs o vs) t
  | [], o, cs, w, h => h
  | v :: vs, o, cs, w, h => Blk.setCells vs (o + 1) (cs.setIfInBounds o v) (w.setCell ⟨g, o, none⟩ v) (h.set o v)
theorem Blk.setCellsOther {g b : Nat} {t : TypeId} (hb : b ≠ g) : ∀ (vs : List Value) (o : Nat) (cs : Array Value) (w : World), Blk w g cs t → Blk (w.setCells b o vs) g cs t
  | [], o, cs, w, h => h
  | v :: vs, o, cs, w, h => Blk.setCellsOther hb vs (o + 1) cs (w.setCell ⟨b, o, none⟩ v) (h.other (a := ⟨b, o, none⟩) hb v)
theorem below_setCells {B : Nat} {w0 : World} {g : Nat} (hg : B ≤ g) : ∀ (vs : List Value) (o : Nat) (w : World), Below B w0 w → Below B w0 (w.setCells g o vs)
  | [], o, w, h => h
  | v :: vs, o, w, h => below_setCells hg vs (o + 1) (w.setCell ⟨g, o, none⟩ v) (h.setCell hg _)
section
variable {w0 w w' : World} {l l' : List (Nat × Array Value × TypeId)} {b i : Nat} {cs cs' : Array Value} {t : TypeId}
theorem Kb.nil (w0 : World) : Kb w0 [] w0 := ⟨fun _ h => (by cases h), Below.refl _ _, fun _ h => (by cases h), List.nodup_nil⟩
theorem Kb.at (K : Kb w0 l w) (e : l[i]? = some (b, cs, t)) : Blk w b cs t := K.all _ (List.mem_of_getElem? e)
theorem Kb.cell (K : Kb w0 l w) (e : l[i]? = some (b, cs, t)) {j : Nat} {v : Value} (hv : cs[j]? = some v) : w.cell? ⟨b, j, none⟩ = some v := by rw [(K.at e).cell j]; exact hv
theorem Kb.next (K : Kb w0 l w) (hb : Below w.heap.size w w') : Kb w0 l w' := ⟨fun x hx => (K.all x hx).below hb (K.all x hx).lt, K.below.trans (hb.mono K.below.size), K.new, K.nd⟩
theorem Kb.drew (K : Kb w0 l w) : Kb w0 l w.drew := ⟨fun x hx => (K.all x hx).drew, K.below.drew, K.new, K.nd⟩
theorem Kb.alloc (K : Kb w0 l w) (cs : Array Value) (t : TypeId) : Kb w0 (l ++ [(w.heap.size, cs, t)]) (w.alloc (.cells cs t)) := by
  refine ⟨fun x hx => ?_, K.below.alloc K.below.size _, fun x hx => ?_, ?_⟩
  · rcases List.mem_append.1 hx with hx | hx
    · exact (K.all x hx).alloc _
    · rw [List.mem_singleton.1 hx]; exact Blk.new _ _ _
  · rcases List.mem_append.1 hx with hx | hx
    · exact K.new x hx
    · rw [List.mem_singleton.1 hx]; exact K.below.size
  · rw [List.map_append, List.nodup_append]
    refine ⟨K.nd, by simp, fun x hx y hy => ?_⟩
    obtain ⟨z, hz, rfl⟩ := List.mem_map.1 hx
    have := (K.all z hz).lt
    simp at hy
    omega
theorem Kb.put (K : Kb w0 l w) (e : l[i]? = some (b, cs, t)) (cs' : Array Value) {w' : World} (h1 : Blk w' b cs' t) (h2 : ∀ x ∈ l, x.1 ≠ b → Blk w x.1 x.2.1 x.2.2 → Blk w' x.1 x.2.1 x.2.2) (h3 : Below w0.heap.size w0 w') : Kb w0 (l.set i (b, cs', t)) w' := by
  have hi := (List.getElem?_eq_some_iff.1 e).1
  have hm : (l.set i (b, cs', t)).map (·.1) = l.map (·.1) := by
    rw [List.map_set]
    refine List.ext_getElem? fun j => ?_
    by_cases c : i = j
    · subst c
      rw [List.getElem?_set_self (by simpa using hi), List.getElem?_map, e]
      rfl
    · rw [List.getElem?_set_ne c]
  have hother : ∀ x ∈ l, x.1 ≠ b → Blk w' x.1 x.2.1 x.2.2 := fun x hx hn => h2 x hx hn (K.all x hx)
  have hin : ∀ x ∈ l.set i (b, cs', t), x = (b, cs', t) ∨ (x ∈ l ∧ x.1 ≠ b) := by
    intro x hx
    obtain ⟨j, hj⟩ := List.getElem?_of_mem hx
    by_cases c : i = j
    · subst c
      rw [List.getElem?_set_self hi] at hj
      injection hj with hj
      exact .inl hj.symm
    · rw [List.getElem?_set_ne c] at hj
      refine .inr ⟨List.mem_of_getElem? hj, fun hx1 => c ?_⟩
      have hjl := (List.getElem?_eq_some_iff.1 hj).1
      have a1 : (l.map (·.1))[i]? = some b := by rw [List.getElem?_map, e]; rfl
      have a2 : (l.map (·.1))[j]? = some b := by rw [List.getElem?_map, hj, ← hx1]; rfl
      exact (List.getElem?_inj (by simpa using hi) K.nd).1 (a1.trans a2.symm)
  refine ⟨fun x hx => ?_, h3, fun x hx => ?_, by rw [hm]; exact K.nd⟩
  · rcases hin x hx with rfl | ⟨hx, hn⟩
    · exact h1
    · exact hother x hx hn
  · rcases hin x hx with rfl | ⟨hx, hn⟩
    · exact K.new (b, cs, t) (List.mem_of_getElem? e)
    · exact K.new x hx
theorem Kb.row (K : Kb w0 l w) (e : l[i]? = some (b, cs, t)) (cs' : Array Value) : Kb w0 (l.set i (b, cs', t)) (w.setRow b cs') :=
  K.put e cs' ((K.at e).row cs') (fun _ _ hn hx => hx.rowOther hn cs') (below_setRow K.below (K.new _ (List.mem_of_getElem? e)) cs')
theorem Kb.set (K : Kb w0 l w) (e : l[i]? = some (b, cs, t)) (j : Nat) (v : Value) : Kb w0 (l.set i (b, cs.setIfInBounds j v, t)) (w.setCell ⟨b, j, none⟩ v) :=
  K.put e _ ((K.at e).set j v) (fun _ _ hn hx => hx.other (a := ⟨b, j, none⟩) (fun h => hn h.symm) v) (K.below.setCell (K.new _ (List.mem_of_getElem? e)) _)
theorem Kb.mid (K : Kb w0 l w) (e : l[i]? = some (b, cs, t)) (o : Nat) (vs : List Value) : Kb w0 (l.set i (b, setL cs o vs, t)) (w.setCells b o vs) :=
  K.put e _ (Blk.setCells vs o cs w (K.at e)) (fun x _ hn hx => Blk.setCellsOther (fun h => hn h.symm) vs o x.2.1 w hx) (below_setCells (K.new _ (List.mem_of_getElem? e)) vs o w K.below)
theorem Blk.thereN {w : World} {g : Nat} {cs : Array Value} {t : TypeId} (h : Blk w g cs t) (o n : Nat) (hn : o + n ≤ cs.size) : w.there g o n := fun j hj => ⟨by rw [h.cell]; simp; omega, h.free _⟩
end
section
variable {P : Program} {ops : Array Oper} {Q : Exit → Act → World → Prop} {a : Act} {w w0 : World} {rest : List Oper} {o : Oper} {l : List (Nat × Array Value × TypeId)} {b i : Nat} {cs : Array Value} {t : TypeId}
theorem kb_box (K : Kb w0 l w) (ty : TypeId) (x : Operand) (cs : Array Value) (ho : o.op = .box ty x) (hx : a.eval x = .agg cs) (hw : Region.wanted o (yielded ops a.tmps) = true)
    (h : ∀ b w', b = w.heap.size → Kb w0 (l ++ [(b, cs, ty)]) w' → wpList P ops Q rest (a.put o.dst (.pointer (some ⟨b, 0, none⟩))) w') : wpList P ops Q (o :: rest) a w := by
  refine BigFrame.wpList_want hw fun K' hK => ?_
  unfold Oper.wp execOp
  simp only [ho, hx, Instr.box, Sem.run_bind, newVar, Sem.run_pure]
  exact hK _ _ (h _ _ rfl (K.alloc cs ty))
theorem kb_alloc (K : Kb w0 l w) (ty : TypeId) (z : Array Value) (ho : o.op = .alloc ty) (hz : ∀ W : World, (zeroValue ty).run P W = .ok (.agg z) W) (hw : Region.wanted o (yielded ops a.tmps) = true)
    (h : ∀ b w', b = w.heap.size → Kb w0 (l ++ [(b, z, ty)]) w' → wpList P ops Q rest (a.put o.dst (.pointer (some ⟨b, 0, none⟩))) w') : wpList P ops Q (o :: rest) a w := by
  refine BigFrame.wpList_want hw fun K' hK => ?_
  unfold Oper.wp execOp
  simp only [ho, Instr.alloc, Sem.run_bind, hz, Result.andThen_ok, newVar, Sem.run_pure]
  exact hK _ _ (h _ _ rfl (K.alloc z ty))
theorem kb_row (K : Kb w0 l w) (i : Nat) (e : l[i]? = some (b, cs, t)) (ty : TypeId) (x y : Operand) (cs' : Array Value) (ho : o.op = .store ty x y) (hg : o.guard = none) (hx : a.eval x = .pointer (some ⟨b, 0, none⟩)) (hy : a.eval y = .agg cs')
    (hi : (P.info? ty).map (·.size) = some cs'.size) (hs : cs.size = cs'.size) (h1 : cs'.all (·.oneCell') = true)
    (h : ∀ w', Kb w0 (l.set i (b, cs', t)) w' → wpList P ops Q rest (a.put o.dst undef) w') : wpList P ops Q (o :: rest) a w :=
  wpList_store_row hg ty x y ho b cs' hx hy t cs (K.at e) hi hs h1 (h _ (K.row e cs'))
theorem kb_mid (K : Kb w0 l w) (i : Nat) (e : l[i]? = some (b, cs, t)) (ty : TypeId) (x y : Operand) (j : Nat) (part : Array Value) (ho : o.op = .store ty x y) (hg : o.guard = none) (hx : a.eval x = .pointer (some ⟨b, j, none⟩)) (hy : a.eval y = .agg part)
    (hi : (P.info? ty).map (·.size) = some part.size) (hs : j + part.size ≤ cs.size) (h1 : part.all (·.oneCell') = true) (cs' : Array Value) (hc : setL cs j part.toList = cs')
    (h : ∀ w', Kb w0 (l.set i (b, cs', t)) w' → wpList P ops Q rest (a.put o.dst undef) w') : wpList P ops Q (o :: rest) a w :=
  wpList_store_mid hg ty x y ho b j part hx hy ((K.at e).thereN j part.size hs) hi h1 (h _ (by rw [← hc]; exact K.mid e j part.toList))
theorem kb_set (K : Kb w0 l w) (i : Nat) (e : l[i]? = some (b, cs, t)) (ty : TypeId) (x y : Operand) (j : Nat) (v : Value) (ho : o.op = .store ty x y) (hw : Region.wanted o (yielded ops a.tmps) = true) (hx : a.eval x = .pointer (some ⟨b, j, none⟩)) (hy : a.eval y = v)
    (hrun : (Instr.storeAt ty (.pointer (some ⟨b, j, none⟩)) v).run P w = .ok () (w.setCell ⟨b, j, none⟩ v)) (cs' : Array Value) (hc : cs.setIfInBounds j v = cs')
    (h : ∀ w', Kb w0 (l.set i (b, cs', t)) w' → wpList P ops Q rest (a.put o.dst undef) w') : wpList P ops Q (o :: rest) a w :=
  BigFrame.wpList_want hw fun K' hK => wp_store_cell ty x y ho ⟨b, j, none⟩ v hx hy hrun (hK _ _ (h _ (by rw [← hc]; exact K.set e j v)))
/-- A store of one cell runs. -/
theorem kb_run_set (K : Kb w0 l w) (e : l[i]? = some (b, cs, t)) (ty : TypeId) (j : Nat) (u v : Value) (hu : cs[j]? = some u) (h : ∀ W : World, W.cell? ⟨b, j, none⟩ = some u → W.frozen? ⟨b, j, none⟩ = false → (Instr.storeAt ty (.pointer (some ⟨b, j, none⟩)) v).run P W = .ok () (W.setCell ⟨b, j, none⟩ v)) :
    (Instr.storeAt ty (.pointer (some ⟨b, j, none⟩)) v).run P w = .ok () (w.setCell ⟨b, j, none⟩ v) := h w (K.cell e hu) ((K.at e).free j)
theorem kb_call (K : Kb w0 l w) (f : FuncId) (args : Array Value) (v : Value) (hw : Region.wanted o (yielded ops a.tmps) = true) (hv : (execOp a.eval o).run P w = .ok (.enter f args) w)
    (hc : Calls P f args w fun e w' => e = .returned v ∧ Below w.heap.size w w') (h : ∀ w', Kb w0 l w' → wpList P ops Q rest (a.put o.dst v) w') : wpList P ops Q (o :: rest) a w :=
  BigFrame.wpList_want hw fun K' hK => by
    unfold Oper.wp
    simp only [hv, Oper.upon]
    exact hc.mono fun e w' ⟨he, hb⟩ => by subst he; exact hK _ _ (h w' (K.next hb))
theorem kb_all (K : Kb w0 l w) (i : Nat) (e : l[i]? = some (b, cs, t)) (ty : TypeId) (x : Operand) (ho : o.op = .load ty x) (hx : a.eval x = .pointer (some ⟨b, 0, none⟩)) {d : TypeDesc} (hu : P.underlying ty = some d)
    (hd : (match d with | .struct _ | .array _ _ => true | _ => false) = true) (hi : (P.info? ty).map (·.size) = some cs.size) : (execOp a.eval o).run P w = .ok (.value (.agg cs)) w :=
  run_loadVar_of ty x ho b hx t cs d (K.at e) hu hd hi
theorem kb_part (K : Kb w0 l w) (i : Nat) (e : l[i]? = some (b, cs, t)) (ty : TypeId) (x : Operand) (j : Nat) (part : List Value) (ho : o.op = .load ty x) (hx : a.eval x = .pointer (some ⟨b, j, none⟩)) (hp : ∀ k v, part[k]? = some v → cs[j + k]? = some v) {d : TypeDesc}
    (hu : P.underlying ty = some d) (hd : d.isRow = true) (hi : (P.info? ty).map (·.size) = some part.length) : (execOp a.eval o).run P w = .ok (.value (.agg part.toArray)) w :=
  run_loadPart_of ty x ho b j hx t cs part d (K.at e) hp hu hd hi
theorem part_of {cs : Array Value} {o : Nat} {part : List Value} (h : (cs.toList.drop o).take part.length = part) : ∀ k v, part[k]? = some v → cs[o + k]? = some v := fun k v hv => by
  have hk : k < part.length := (List.getElem?_eq_some_iff.1 hv).1
  rw [← h, List.getElem?_take_of_lt hk, List.getElem?_drop] at hv
  simpa using hv
theorem run_pick_no {P : Program} {o : Oper} {a : Act} {w : World} (c x y : Operand) (v : Value) (ho : o.op = .pick c x y) (hc : a.eval c = .bool false) (hy : a.eval y = v) : (execOp a.eval o).run P w = .ok (.value v) w := by
  unfold execOp
  simp only [ho, hc, hy]
  simp [asBool, Sem.run_pure, Result.andThen_ok]
theorem run_pick_yes {P : Program} {o : Oper} {a : Act} {w : World} (c x y : Operand) (v : Value) (ho : o.op = .pick c x y) (hc : a.eval c = .bool true) (hy : a.eval x = v) : (execOp a.eval o).run P w = .ok (.value v) w := by
  unfold execOp
  simp only [ho, hc, hy]
  simp [asBool, Sem.run_pure, Result.andThen_ok]
end
end Go.Proofs.Ytiophmmcennjnaa
