/- Blocks of one's own beside things that are owned, whatever these are. -/
import Derived.Test.YtiophmmcennjnaaIns
import Derived.Test.YtiophmmcennjnaaRg9
namespace Go.Proofs.Ytiophmmcennjnaa
open Go.RowKit
set_option linter.unusedSimpArgs false
set_option linter.unusedVariables false

/-- What may change is F. -/
structure Mv (F : Nat → Prop) (w w' : World) : Prop where
  os : w'.os = w.os
  tape : w'.tape = w.tape
  output : w'.output = w.output
  size : w.heap.size ≤ w'.heap.size
  block : ∀ k, k < w.heap.size → ¬ F k → w'.heap[k]? = w.heap[k]?
theorem Mv.refl (F : Nat → Prop) (w : World) : Mv F w w := ⟨rfl, rfl, rfl, Nat.le_refl _, fun _ _ _ => rfl⟩
theorem Mv.of_below {F : Nat → Prop} {w w' : World} (h : Below w.heap.size w w') : Mv F w w' := ⟨h.os, h.tape, h.output, h.size, fun k hk _ => h.block k hk⟩
theorem Mv.trans {F G : Nat → Prop} {a b c : World} (h : Mv F a b) (k : Mv G b c) (hG : ∀ x, x < a.heap.size → G x → F x) : Mv F a c :=
  ⟨k.os.trans h.os, k.tape.trans h.tape, k.output.trans h.output, Nat.le_trans h.size k.size, fun x hx hn => (k.block x (Nat.lt_of_lt_of_le hx h.size) (fun g => hn (hG x hx g))).trans (h.block x hx hn)⟩
theorem Mv.below {F : Nat → Prop} {w w' : World} (h : Mv F w w') (hF : ∀ k, F k → w.heap.size ≤ k) : Below w.heap.size w w' := ⟨h.os, h.tape, h.output, h.size, fun k hk => h.block k hk (fun f => by have := hF k f; omega)⟩
theorem Mv.setCell (w : World) (b o : Nat) (u : Value) : Mv (fun k => k = b) w (w.setCell ⟨b, o, none⟩ u) :=
  ⟨rfl, rfl, rfl, ((Below.refl 0 w).setCell (Nat.zero_le _) u (p := ⟨b, o, none⟩)).size, fun k hk hn => heap_setCell_other w ⟨b, o, none⟩ k u hn⟩
theorem Mv.grown {w w' : World} {r : Option Nat} (h : w.grownBy w' r) : Mv (fun k => r = some k) w w' := ⟨h.os, h.tape, h.output, h.size, fun k hk hn => h.block k hk (fun e => hn e.symm)⟩
theorem Mv.mono {F G : Nat → Prop} {w w' : World} (h : Mv F w w') (hG : ∀ k, F k → G k) : Mv G w w' := ⟨h.os, h.tape, h.output, h.size, fun k hk hn => h.block k hk (fun f => hn (hG k f))⟩
theorem Mv.setRow (w : World) (b : Nat) (cs : Array Value) : Mv (fun k => k = b) w (w.setRow b cs) := by
  have h := below_setRow (Below.refl 0 w) (Nat.zero_le b) cs
  exact ⟨h.os, h.tape, h.output, h.size, fun k hk hn => setRow_other w b k cs (fun e => hn e)⟩
theorem Mv.setCells (b : Nat) : ∀ (vs : List Value) (o : Nat) (w : World), Mv (fun k => k = b) w (w.setCells b o vs)
  | [], o, w => Mv.refl _ w
  | v :: vs, o, w => (Mv.setCell w b o v).trans (Mv.setCells b vs (o + 1) (w.setCell ⟨b, o, none⟩ v)) (fun _ _ h => h)
theorem Blk.fr {F : Nat → Prop} {w w' : World} {g : Nat} {cs : Array Value} {t : TypeId} (h : Blk w g cs t) (hf : Mv F w w') (hn : ¬ F g) : Blk w' g cs t := (hf.block g h.lt hn).trans h
theorem Own.fr {α : Type} {enc : α → List Value} {size base : Nat} {F : Nat → Prop} {w w' : World} {e : TypeId} {v : Value} {l : List α} (h : Own w base e size enc v l) (hf : Mv F w w') (hn : ∀ k, v.ownBlock = some k → ¬ F k) : Own w' base e size enc v l := by
  refine ⟨h.1, ?_⟩
  have hlt := h.lt
  rcases h.2 with hn2 | ⟨g, cap, cur, rfl, h2, h3, h4⟩
  · exact .inl hn2
  · exact .inr ⟨g, cap, cur, rfl, h2, (hf.block g (hlt g rfl).2 (hn g rfl)).trans h3, h4⟩
theorem Kb.left {w0 w : World} {l r : List (Nat × Array Value × TypeId)} (K : Kb w0 (l ++ r) w) : Kb w0 l w :=
  ⟨fun x hx => K.all x (List.mem_append_left _ hx), K.below, fun x hx => K.new x (List.mem_append_left _ hx), by have := K.nd; rw [List.map_append, List.nodup_append] at this; exact this.1⟩
/-- Something owned: what it says of a world, in which blocks. -/
structure Bd where
  p : World → Prop
  f : Nat → Prop
  lt : ∀ {W : World} {k : Nat}, p W → f k → k < W.heap.size
  mv : ∀ {G : Nat → Prop} {W W' : World}, p W → Mv G W W' → (∀ k, f k → ¬ G k) → p W'
def Bd.nil : Bd := ⟨fun _ => True, fun _ => False, fun _ h => h.elim, fun _ _ _ => trivial⟩
def Bd.and (A B : Bd) : Bd := ⟨fun W => A.p W ∧ B.p W, fun k => A.f k ∨ B.f k, fun h k => k.elim (A.lt h.1) (B.lt h.2), fun h m n => ⟨A.mv h.1 m (fun k q => n k (.inl q)), B.mv h.2 m (fun k q => n k (.inr q))⟩⟩
def bdO {α : Type} (B : Nat) (e : TypeId) (size : Nat) (enc : α → List Value) (v : Value) (l : List α) : Bd :=
  ⟨fun W => Own W B e size enc v l, fun k => v.ownBlock = some k, fun h q => (h.lt _ q).2, fun h m n => h.fr m (fun k q => n k q)⟩
structure Kx (w0 : World) (l : List (Nat × Array Value × TypeId)) (A : Bd) (w : World) : Prop where
  kb : Kb w0 l w
  a : A.p w
  ap : ∀ x ∈ l, ¬ A.f x.1
  nw : ∀ k, A.f k → w0.heap.size ≤ k
section
variable {w0 w w' w1 : World} {l l' : List (Nat × Array Value × TypeId)} {A A' : Bd} {b i : Nat} {cs : Array Value} {ty : TypeId}
theorem Kx.below (K : Kx w0 l A w) : Below w0.heap.size w0 w := K.kb.below
theorem Kx.start (K : Kb w0 l w) : Kx w0 l Bd.nil w := ⟨K, trivial, fun _ _ h => h, fun _ h => h.elim⟩
theorem Kx.next (K : Kx w0 l A w) (hb : Below w.heap.size w w') : Kx w0 l A w' := ⟨K.kb.next hb, A.mv K.a (Mv.of_below hb) (fun _ _ e => e), K.ap, K.nw⟩
theorem Kx.drew (K : Kx w0 l A w) : Kx w0 l A w.drew := K.next (Below.refl _ _).drew
theorem Kx.at (K : Kx w0 l A w) (e : l[i]? = some (b, cs, ty)) : Blk w b cs ty := K.kb.at e
theorem Kx.cell (K : Kx w0 l A w) (e : l[i]? = some (b, cs, ty)) {j : Nat} {v : Value} (hv : cs[j]? = some v) : w.cell? ⟨b, j, none⟩ = some v := K.kb.cell e hv
theorem Kx.left {r : List (Nat × Array Value × TypeId)} (K : Kx w0 (l ++ r) A w) : Kx w0 l A w := ⟨Kb.left K.kb, K.a, fun x hx => K.ap x (List.mem_append_left _ hx), K.nw⟩
theorem Kx.alloc (K : Kx w0 l A w) (cs : Array Value) (ty : TypeId) : Kx w0 (l ++ [(w.heap.size, cs, ty)]) A (w.alloc (.cells cs ty)) := by
  refine ⟨K.kb.alloc cs ty, A.mv K.a (Mv.of_below ((Below.refl _ _).alloc (Nat.le_refl _) _)) (fun _ _ e => e), fun x hx hf => ?_, K.nw⟩
  rcases List.mem_append.1 hx with hx | hx
  · exact K.ap x hx hf
  · rw [List.mem_singleton.1 hx] at hf
    exact Nat.lt_irrefl _ (A.lt K.a hf)
theorem Kx.put (K : Kx w0 l A w) (e : l[i]? = some (b, cs, ty)) (cs' : Array Value) (hk : Kb w0 (l.set i (b, cs', ty)) w') (hm : Mv (fun k => k = b) w w') : Kx w0 (l.set i (b, cs', ty)) A w' := by
  have hb : ¬ A.f b := K.ap _ (List.mem_of_getElem? e)
  refine ⟨hk, A.mv K.a hm (fun k hf e2 => hb (e2 ▸ hf)), fun x hx hf => ?_, K.nw⟩
  rcases List.mem_or_eq_of_mem_set hx with q | q
  · exact K.ap x q hf
  · rw [q] at hf; exact hb hf
theorem Kx.row (K : Kx w0 l A w) (e : l[i]? = some (b, cs, ty)) (cs' : Array Value) : Kx w0 (l.set i (b, cs', ty)) A (w.setRow b cs') := K.put e cs' (K.kb.row e cs') (Mv.setRow w b cs')
theorem Kx.set (K : Kx w0 l A w) (e : l[i]? = some (b, cs, ty)) (j : Nat) (v : Value) : Kx w0 (l.set i (b, cs.setIfInBounds j v, ty)) A (w.setCell ⟨b, j, none⟩ v) := K.put e _ (K.kb.set e j v) (Mv.setCell w b j v)
theorem Kx.mid (K : Kx w0 l A w) (e : l[i]? = some (b, cs, ty)) (o : Nat) (vs : List Value) : Kx w0 (l.set i (b, setL cs o vs, ty)) A (w.setCells b o vs) := K.put e _ (K.kb.mid e o vs) (Mv.setCells b vs o w)
theorem kx_cast {a c : List (Nat × Array Value × TypeId)} (K : Kx w0 a A w) (e : a = c) : Kx w0 c A w := e ▸ K
/-- Other things are owned now, all of them new. -/
theorem Kx.renew (K : Kx w0 l A w) (hb : Below w.heap.size w w') (h : A'.p w') (hn : ∀ k, A'.f k → w.heap.size ≤ k) : Kx w0 l A' w' :=
  ⟨K.kb.next hb, h, fun x hx hf => by have := hn _ hf; have := (K.kb.all x hx).lt; omega, fun k hf => Nat.le_trans K.below.size (hn k hf)⟩
/-- More is owned, all of it new. -/
theorem Kx.more (K : Kx w0 l A w) (hb : Below w.heap.size w w') (h : A'.p w') (hn : ∀ k, A'.f k → w.heap.size ≤ k) : Kx w0 l (A.and A') w' := by
  have q := K.next hb
  refine ⟨q.kb, ⟨q.a, h⟩, fun x hx hf => ?_, fun k hf => ?_⟩
  · rcases hf with hf | hf
    · exact K.ap x hx hf
    · have := hn _ hf; have := (K.kb.all x hx).lt; omega
  · rcases hf with hf | hf
    · exact K.nw k hf
    · exact Nat.le_trans K.below.size (hn k hf)
theorem kx_add2 {cs : Array Value} {ty : TypeId} (h0 : Kx w0 l A w1) (hb : Below w1.heap.size w1 w) (hk : Blk w b cs ty) (hB : w1.heap.size ≤ b) : Kx w0 (l ++ [(b, cs, ty)]) A w := by
  have q := h0.next hb
  refine ⟨kb_add q.kb hk (fun x hx => by have := (h0.kb.all x hx).lt; omega) (Nat.le_trans h0.below.size hB), q.a, fun x hx hf => ?_, q.nw⟩
  rcases List.mem_append.1 hx with hx | hx
  · exact h0.ap x hx hf
  · rw [List.mem_singleton.1 hx] at hf
    have := A.lt h0.a hf
    have hf : b < w1.heap.size := this
    omega
end
section
variable {P : Program} {ops : Array Oper} {Q : Exit → Act → World → Prop} {a : Act} {w w0 : World} {A : Bd} {rest : List Oper} {o : Oper} {l : List (Nat × Array Value × TypeId)} {b i : Nat} {cs : Array Value} {t0 : TypeId}
theorem kx_box (K : Kx w0 l A w) (ty : TypeId) (x : Operand) (cs : Array Value) (ho : o.op = .box ty x) (hx : a.eval x = .agg cs) (hw : Region.wanted o (yielded ops a.tmps) = true)
    (h : ∀ b w', b = w.heap.size → Kx w0 (l ++ [(b, cs, ty)]) A w' → wpList P ops Q rest (a.put o.dst (.pointer (some ⟨b, 0, none⟩))) w') : wpList P ops Q (o :: rest) a w := by
  refine BigFrame.wpList_want hw fun K' hK => ?_
  unfold Oper.wp execOp
  simp only [ho, hx, Instr.box, Sem.run_bind, newVar, Sem.run_pure]
  exact hK _ _ (h _ _ rfl (K.alloc cs ty))
theorem kx_alloc (K : Kx w0 l A w) (ty : TypeId) (z : Array Value) (ho : o.op = .alloc ty) (hz : ∀ W : World, (zeroValue ty).run P W = .ok (.agg z) W) (hw : Region.wanted o (yielded ops a.tmps) = true)
    (h : ∀ b w', b = w.heap.size → Kx w0 (l ++ [(b, z, ty)]) A w' → wpList P ops Q rest (a.put o.dst (.pointer (some ⟨b, 0, none⟩))) w') : wpList P ops Q (o :: rest) a w := by
  refine BigFrame.wpList_want hw fun K' hK => ?_
  unfold Oper.wp execOp
  simp only [ho, Instr.alloc, Sem.run_bind, hz, Result.andThen_ok, newVar, Sem.run_pure]
  exact hK _ _ (h _ _ rfl (K.alloc z ty))
theorem kx_row (K : Kx w0 l A w) (i : Nat) (e : l[i]? = some (b, cs, t0)) (ty : TypeId) (x y : Operand) (cs' : Array Value) (ho : o.op = .store ty x y) (hg : o.guard = none) (hx : a.eval x = .pointer (some ⟨b, 0, none⟩)) (hy : a.eval y = .agg cs')
    (hi : (P.info? ty).map (·.size) = some cs'.size) (hs : cs.size = cs'.size) (h1 : cs'.all (·.oneCell') = true)
    (h : ∀ w', Kx w0 (l.set i (b, cs', t0)) A w' → wpList P ops Q rest (a.put o.dst undef) w') : wpList P ops Q (o :: rest) a w :=
  wpList_store_row hg ty x y ho b cs' hx hy t0 cs (K.at e) hi hs h1 (h _ (K.row e cs'))
theorem kx_mid (K : Kx w0 l A w) (i : Nat) (e : l[i]? = some (b, cs, t0)) (ty : TypeId) (x y : Operand) (j : Nat) (part : Array Value) (ho : o.op = .store ty x y) (hg : o.guard = none) (hx : a.eval x = .pointer (some ⟨b, j, none⟩)) (hy : a.eval y = .agg part)
    (hi : (P.info? ty).map (·.size) = some part.size) (hs : j + part.size ≤ cs.size) (h1 : part.all (·.oneCell') = true) (cs' : Array Value) (hc : setL cs j part.toList = cs')
    (h : ∀ w', Kx w0 (l.set i (b, cs', t0)) A w' → wpList P ops Q rest (a.put o.dst undef) w') : wpList P ops Q (o :: rest) a w :=
  wpList_store_mid hg ty x y ho b j part hx hy ((K.at e).thereN j part.size hs) hi h1 (h _ (by rw [← hc]; exact K.mid e j part.toList))
theorem kx_set (K : Kx w0 l A w) (i : Nat) (e : l[i]? = some (b, cs, t0)) (ty : TypeId) (x y : Operand) (j : Nat) (v : Value) (ho : o.op = .store ty x y) (hw : Region.wanted o (yielded ops a.tmps) = true) (hx : a.eval x = .pointer (some ⟨b, j, none⟩)) (hy : a.eval y = v)
    (hrun : (Instr.storeAt ty (.pointer (some ⟨b, j, none⟩)) v).run P w = .ok () (w.setCell ⟨b, j, none⟩ v)) (cs' : Array Value) (hc : cs.setIfInBounds j v = cs')
    (h : ∀ w', Kx w0 (l.set i (b, cs', t0)) A w' → wpList P ops Q rest (a.put o.dst undef) w') : wpList P ops Q (o :: rest) a w :=
  BigFrame.wpList_want hw fun K' hK => wp_store_cell ty x y ho ⟨b, j, none⟩ v hx hy hrun (hK _ _ (h _ (by rw [← hc]; exact K.set e j v)))
theorem kx_run_set (K : Kx w0 l A w) (e : l[i]? = some (b, cs, t0)) (ty : TypeId) (j : Nat) (u v : Value) (hu : cs[j]? = some u) (h : ∀ W : World, W.cell? ⟨b, j, none⟩ = some u → W.frozen? ⟨b, j, none⟩ = false → (Instr.storeAt ty (.pointer (some ⟨b, j, none⟩)) v).run P W = .ok () (W.setCell ⟨b, j, none⟩ v)) :
    (Instr.storeAt ty (.pointer (some ⟨b, j, none⟩)) v).run P w = .ok () (w.setCell ⟨b, j, none⟩ v) := h w (K.cell e hu) ((K.at e).free j)
theorem kx_call (K : Kx w0 l A w) (f : FuncId) (args : Array Value) (v : Value) (hw : Region.wanted o (yielded ops a.tmps) = true) (hv : (execOp a.eval o).run P w = .ok (.enter f args) w)
    (hc : Calls P f args w fun e w' => e = .returned v ∧ Below w.heap.size w w') (h : ∀ w', Kx w0 l A w' → wpList P ops Q rest (a.put o.dst v) w') : wpList P ops Q (o :: rest) a w :=
  BigFrame.wpList_want hw fun K' hK => by
    unfold Oper.wp
    simp only [hv, Oper.upon]
    exact hc.mono fun e w' ⟨he, hb⟩ => by subst he; exact hK _ _ (h w' (K.next hb))
theorem kx_all (K : Kx w0 l A w) (i : Nat) (e : l[i]? = some (b, cs, t0)) (ty : TypeId) (x : Operand) (ho : o.op = .load ty x) (hx : a.eval x = .pointer (some ⟨b, 0, none⟩)) {d : TypeDesc} (hu : P.underlying ty = some d)
    (hd : (match d with | .struct _ | .array _ _ => true | _ => false) = true) (hi : (P.info? ty).map (·.size) = some cs.size) : (execOp a.eval o).run P w = .ok (.value (.agg cs)) w :=
  run_loadVar_of ty x ho b hx t0 cs d (K.at e) hu hd hi
theorem kx_part (K : Kx w0 l A w) (i : Nat) (e : l[i]? = some (b, cs, t0)) (ty : TypeId) (x : Operand) (j : Nat) (part : List Value) (ho : o.op = .load ty x) (hx : a.eval x = .pointer (some ⟨b, j, none⟩)) (hp : ∀ k v, part[k]? = some v → cs[j + k]? = some v) {d : TypeDesc}
    (hu : P.underlying ty = some d) (hd : d.isRow = true) (hi : (P.info? ty).map (·.size) = some part.length) : (execOp a.eval o).run P w = .ok (.value (.agg part.toArray)) w :=
  run_loadPart_of ty x ho b j hx t0 cs part d (K.at e) hp hu hd hi
end
end Go.Proofs.Ytiophmmcennjnaa
