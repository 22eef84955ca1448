import Derived.Test.YteeinlbhcdpnnaaDoorG3
import Derived.Test.YteeinlbhcdpnnaaDoorG1
import Derived.Test.YteeinlbhcdpnnaaDoorG4
set_option linter.unusedSimpArgs false
set_option linter.unusedVariables false
namespace Go.Proofs.YteeinlbhcdpnnaaDoor
section
open Go.RowKit
structure Mv (F : Nat → Prop) (w w' : World) : Prop where
 os : w'.os = w.os
 tape : w'.tape = w.tape
 output : w'.output = w.output
 size : w.heap.size ≤ w'.heap.size
 block : ∀ k, k < w.heap.size → ¬ F k → w'.heap[k]? = w.heap[k]?
theorem Mv.refl (F : Nat → Prop) (w : World) : Mv F w w := ⟨rfl, rfl, rfl, Nat.le_refl _, fun _ _ _ => rfl⟩
theorem Mv.of_below {F : Nat → Prop} {w w' : World} (h : Below w.heap.size w w') : Mv F w w' := ⟨h.os, h.tape, h.output, h.size, fun k hk _ => h.block k hk⟩
theorem Mv.trans {F G : Nat → Prop} {a b c : World} (h : Mv F a b) (k : Mv G b c) (hG : ∀ x, x < a.heap.size → G x → F x) : Mv F a c :=
 ⟨k.os.trans h.os, k.tape.trans h.tape, k.output.trans h.output, Nat.le_trans h.size k.size, fun x hx hn => (k.block x (Nat.lt_of_lt_of_le hx h.size) (fun g => hn (hG x hx g))).trans (h.block x hx hn)⟩
theorem Mv.below {F : Nat → Prop} {w w' : World} (h : Mv F w w') (hF : ∀ k, F k → w.heap.size ≤ k) : Below w.heap.size w w' := ⟨h.os, h.tape, h.output, h.size, fun k hk => h.block k hk (fun f => by have := hF k f; omega)⟩
theorem Mv.setCell (w : World) (b o : Nat) (u : Value) : Mv (fun k => k = b) w (w.setCell ⟨b, o, none⟩ u) :=
 ⟨rfl, rfl, rfl, ((Below.refl 0 w).setCell (Nat.zero_le _) u (p := ⟨b, o, none⟩)).size, fun k hk hn => heap_setCell_other w ⟨b, o, none⟩ k u hn⟩
theorem Mv.grown {w w' : World} {r : Option Nat} (h : w.grownBy w' r) : Mv (fun k => r = some k) w w' := ⟨h.os, h.tape, h.output, h.size, fun k hk hn => h.block k hk (fun e => hn e.symm)⟩
theorem Mv.mono {F G : Nat → Prop} {w w' : World} (h : Mv F w w') (hG : ∀ k, F k → G k) : Mv G w w' := ⟨h.os, h.tape, h.output, h.size, fun k hk hn => h.block k hk (fun f => hn (hG k f))⟩
theorem Mv.setRow (w : World) (b : Nat) (cs : Array Value) : Mv (fun k => k = b) w (w.setRow b cs) := by
 have h := below_setRow (Below.refl 0 w) (Nat.zero_le b) cs
 exact ⟨h.os, h.tape, h.output, h.size, fun k hk hn => setRow_other w b k cs (fun e => hn e)⟩
theorem Mv.setCells (b : Nat) : ∀ (vs : List Value) (o : Nat) (w : World), Mv (fun k => k = b) w (w.setCells b o vs)
 | [], o, w => Mv.refl _ w
 | v :: vs, o, w => (Mv.setCell w b o v).trans (Mv.setCells b vs (o + 1) (w.setCell ⟨b, o, none⟩ v)) (fun _ _ h => h)
theorem Blk.fr {F : Nat → Prop} {w w' : World} {g : Nat} {cs : Array Value} {t : TypeId} (h : Blk w g cs t) (hf : Mv F w w') (hn : ¬ F g) : Blk w' g cs t := (hf.block g h.lt hn).trans h
theorem Own.fr {α : Type} {enc : α → List Value} {size base : Nat} {F : Nat → Prop} {w w' : World} {e : TypeId} {v : Value} {l : List α} (h : Own w base e size enc v l) (hf : Mv F w w') (hn : ∀ k, v.ownBlock = some k → ¬ F k) : Own w' base e size enc v l := by
 refine ⟨h.1, ?_⟩
 have hlt := h.lt
 rcases h.2 with hn2 | ⟨g, cap, cur, rfl, h2, h3, h4⟩
 ·
  exact .inl hn2
 ·
  exact .inr ⟨g, cap, cur, rfl, h2, (hf.block g (hlt g rfl).2 (hn g rfl)).trans h3, h4⟩
theorem Own.up {α : Type} {enc : α → List Value} {size base B : Nat} {w : World} {e : TypeId} {v : Value} {l : List α} (h : Own w base e size enc v l) (hB : ∀ k, v.ownBlock = some k → B ≤ k) : Own w B e size enc v l := by
 refine ⟨h.1, ?_⟩
 rcases h.2 with hn2 | ⟨g, cap, cur, rfl, h2, h3, h4⟩
 ·
  exact .inl hn2
 ·
  exact .inr ⟨g, cap, cur, rfl, hB g rfl, h3, h4⟩
structure TS where
 s : St
 told : List Td
 fl : List Int
def actL (t : TS) (v1 v2 v3 v4 tv fv : Value) : List Value := stL t.s v1 v2 v3 v4 ++ [tv, fv]
def actA (t : TS) (v1 v2 v3 v4 tv fv : Value) : Array Value := (actL t v1 v2 v3 v4 tv fv).toArray
structure Cs where
 T : TypeId
 b : Nat
 a : Option Addr
 n : Nat
 m : Nat
 v2 : Value
 v3 : Value
 v4 : Value
abbrev Cs.v1 (c : Cs) : Value := .slice c.a c.n c.m
def foot (c : Cs) (tv fv : Value) (k : Nat) : Prop := k = c.b ∨ c.v1.ownBlock = some k ∨ tv.ownBlock = some k ∨ fv.ownBlock = some k
structure Tact (w : World) (c : Cs) (tv fv : Value) (t : TS) : Prop where
 blk : Blk w c.b (actA t c.v1 c.v2 c.v3 c.v4 tv fv) c.T
 o1 : Own w 0 73 21 poC c.v1 t.s.po
 ot : Own w 0 89 17 tdC tv t.told
 of : Own w 0 3 1 inC fv t.fl
 b1 : c.v1.ownBlock ≠ some c.b
 bt : tv.ownBlock ≠ some c.b
 bf : fv.ownBlock ≠ some c.b
 a1t : ∀ k, c.v1.ownBlock = some k → tv.ownBlock ≠ some k
 a1f : ∀ k, c.v1.ownBlock = some k → fv.ownBlock ≠ some k
 atf : ∀ k, tv.ownBlock = some k → fv.ownBlock ≠ some k
 gl : RolesAt w
 g0 : ¬ foot c tv fv 0
 few : t.s.po.length ≤ 100
section
variable {w w' : World} {c : Cs} {tv fv tv' fv' : Value} {t t' : TS}
theorem Tact.lt (h : Tact w c tv fv t) {k : Nat} (hk : foot c tv fv k) : k < w.heap.size := by
 rcases hk with rfl | e | e | e
 ·
  exact h.blk.lt
 ·
  exact (h.o1.lt k e).2
 ·
  exact (h.ot.lt k e).2
 ·
  exact (h.of.lt k e).2
theorem RolesAt.fr {F : Nat → Prop} (h : RolesAt w) (hf : Mv F w w') (hn : ¬ F 0) : RolesAt w' := by
 have hlt : 0 < w.heap.size := h.lt
 unfold RolesAt World.var? at h ⊢
 rw [rolesNo] at h ⊢
 simp only [Option.bind_some] at h ⊢
 rw [hf.block 0 hlt hn]
 exact h
theorem Tact.fr {F : Nat → Prop} (h : Tact w c tv fv t) (hf : Mv F w w') (hn : ∀ k, foot c tv fv k → ¬ F k) (h0 : ¬ F 0) : Tact w' c tv fv t :=
 ⟨h.blk.fr hf (hn c.b (.inl rfl)), h.o1.fr hf (fun k e => hn k (.inr (.inl e))), h.ot.fr hf (fun k e => hn k (.inr (.inr (.inl e)))), h.of.fr hf (fun k e => hn k (.inr (.inr (.inr e)))), h.b1, h.bt, h.bf, h.a1t, h.a1f, h.atf, h.gl.fr hf h0, h.g0, h.few⟩
end
structure Tr where
 w0 : World
 c : Cs
 F : Nat → Prop
structure Ta (R : Tr) (l : List (Nat × Array Value × TypeId)) (t : TS) (w : World) : Prop where
 all : ∀ x ∈ l, Blk w x.1 x.2.1 x.2.2
 new : ∀ x ∈ l, R.w0.heap.size ≤ x.1
 nd : (l.map (·.1)).Nodup
 fr : Mv R.F R.w0 w
 act : ∃ tv fv, Tact w R.c tv fv t ∧ (∀ x ∈ l, ¬ foot R.c tv fv x.1) ∧ (∀ k, foot R.c tv fv k → R.F k ∨ R.w0.heap.size ≤ k)
 g0 : ¬ R.F 0 ∧ 0 < R.w0.heap.size
def Done (w : World) (c : Cs) (tv fv : Value) (t' : TS) (w' : World) : Prop :=
 ∃ tv' fv', Tact w' c tv' fv' t' ∧ Mv (foot c tv fv) w w' ∧ ∀ k, foot c tv' fv' k → foot c tv fv k ∨ w.heap.size ≤ k
section
variable {R : Tr} {w w' : World} {l l' : List (Nat × Array Value × TypeId)} {b i : Nat} {cs cs' : Array Value} {ty : TypeId} {t t' : TS}
theorem Tact.start {c : Cs} {tv fv : Value} (h : Tact w c tv fv t) : Ta ⟨w, c, foot c tv fv⟩ [] t w :=
 ⟨fun _ h => (by cases h), fun _ h => (by cases h), List.nodup_nil, Mv.refl _ _, ⟨tv, fv, h, fun _ h => (by cases h), fun _ e => .inl e⟩, h.g0, h.gl.lt⟩
theorem Ta.done {w0 : World} {c : Cs} {tv fv : Value} (h : Ta ⟨w0, c, foot c tv fv⟩ l t w) : Done w0 c tv fv t w := by
 obtain ⟨tv', fv', h1, -, h3⟩ := h.act
 exact ⟨tv', fv', h1, h.fr, h3⟩
theorem Ta.step {G : Nat → Prop} (h : Ta R l t w) (hc : Mv G w w') (hG : ∀ k, k < w.heap.size → G k → k ∈ l.map (·.1)) (hloc : ∀ x ∈ l', Blk w' x.1 x.2.1 x.2.2) (hid : ∀ x ∈ l', x.1 ∈ l.map (·.1) ∨ w.heap.size ≤ x.1) (hnd : (l'.map (·.1)).Nodup) : Ta R l' t w' := by
 obtain ⟨tv, fv, h1, h2, h3⟩ := h.act
 have hnew : ∀ k, k ∈ l.map (·.1) → R.w0.heap.size ≤ k := fun k hk => by
  obtain ⟨x, hx, rfl⟩ := List.mem_map.1 hk
  exact h.new x hx
 have hft : ∀ k, k ∈ l.map (·.1) → ¬ foot R.c tv fv k := fun k hk => by
  obtain ⟨x, hx, rfl⟩ := List.mem_map.1 hk
  exact h2 x hx
 refine ⟨hloc, fun x hx => ?_, hnd, h.fr.trans hc (fun k hk hg => ?_), ⟨tv, fv, h1.fr hc (fun k hk hg => hft k (hG k (h1.lt hk) hg) hk) (fun hg => ?_), fun x hx hk => ?_, h3⟩, h.g0⟩
 ·
  rcases hid x hx with c | c
  ·
   exact hnew _ c
  ·
   exact Nat.le_trans h.fr.size c
 ·
  have := hnew k (hG k (Nat.lt_of_lt_of_le hk h.fr.size) hg); omega
 ·
  have := hnew 0 (hG 0 (Nat.lt_of_lt_of_le h.g0.2 h.fr.size) hg)
  have := h.g0.2
  omega
 ·
  rcases hid x hx with c | c
  ·
   exact hft _ c hk
  ·
   have := h1.lt hk; omega
theorem Ta.act_step {tv fv tv' fv' : Value} (h : Ta R l t w) (h1 : Tact w R.c tv fv t) (h2 : ∀ x ∈ l, ¬ foot R.c tv fv x.1) (h3 : ∀ k, foot R.c tv fv k → R.F k ∨ R.w0.heap.size ≤ k)
 (k1 : Tact w' R.c tv' fv' t') (k2 : Mv (foot R.c tv fv) w w') (k3 : ∀ k, foot R.c tv' fv' k → foot R.c tv fv k ∨ w.heap.size ≤ k) : Ta R l t' w' := by
 refine ⟨fun x hx => (h.all x hx).fr k2 (h2 x hx), h.new, h.nd, h.fr.trans k2 (fun k hk hf => (h3 k hf).resolve_right (by omega)), ⟨tv', fv', k1, fun x hx hk => ?_, fun k hk => ?_⟩, h.g0⟩
 ·
  rcases k3 _ hk with c | c
  ·
   exact h2 x hx c
  ·
   have := (h.all x hx).lt; omega
 ·
  rcases k3 k hk with c | c
  ·
   exact h3 k c
  ·
   exact .inr (Nat.le_trans h.fr.size c)
theorem Ta.next (h : Ta R l t w) (hb : Below w.heap.size w w') : Ta R l t w' :=
 h.step (G := fun _ => False) (Mv.of_below hb) (fun _ _ e => e.elim) (fun x hx => (h.all x hx).below hb (h.all x hx).lt) (fun x hx => .inl (List.mem_map.2 ⟨x, hx, rfl⟩)) h.nd
theorem Ta.drew (h : Ta R l t w) : Ta R l t w.drew := h.next (Below.refl _ _).drew
theorem Ta.alloc (h : Ta R l t w) (cs : Array Value) (ty : TypeId) : Ta R (l ++ [(w.heap.size, cs, ty)]) t (w.alloc (.cells cs ty)) := by
 refine h.step (G := fun _ => False) (Mv.of_below ((Below.refl _ _).alloc (Nat.le_refl _) _)) (fun _ _ e => e.elim) (fun x hx => ?_) (fun x hx => ?_) ?_
 ·
  rcases List.mem_append.1 hx with hx | hx
  ·
   exact (h.all x hx).alloc _
  ·
   rw [List.mem_singleton.1 hx]; exact Blk.new _ _ _
 ·
  rcases List.mem_append.1 hx with hx | hx
  ·
   exact .inl (List.mem_map.2 ⟨x, hx, rfl⟩)
  ·
   rw [List.mem_singleton.1 hx]; exact .inr (Nat.le_refl _)
 ·
  rw [List.map_append, List.nodup_append]
  refine ⟨h.nd, by simp, fun x hx y hy => ?_⟩
  obtain ⟨z, hz, rfl⟩ := List.mem_map.1 hx
  have := (h.all z hz).lt
  simp at hy
  omega
theorem Ta.at (K : Ta R l t w) (e : l[i]? = some (b, cs, ty)) : Blk w b cs ty := K.all _ (List.mem_of_getElem? e)
theorem Ta.cell (K : Ta R l t w) (e : l[i]? = some (b, cs, ty)) {j : Nat} {v : Value} (hv : cs[j]? = some v) : w.cell? ⟨b, j, none⟩ = some v := by rw [(K.at e).cell j]; exact hv
theorem Ta.put (K : Ta R l t w) (e : l[i]? = some (b, cs, ty)) (cs' : Array Value) {w' : World} (h1 : Blk w' b cs' ty) (h2 : Mv (fun k => k = b) w w') : Ta R (l.set i (b, cs', ty)) t w' := by
 have hi := (List.getElem?_eq_some_iff.1 e).1
 have hm : (l.set i (b, cs', ty)).map (·.1) = l.map (·.1) := by
  rw [List.map_set]
  refine List.ext_getElem? fun j => ?_
  by_cases c : i = j
  ·
   subst c
   rw [List.getElem?_set_self (by simpa using hi), List.getElem?_map, e]
   rfl
  ·
   rw [List.getElem?_set_ne c]
 have hin : ∀ x ∈ l.set i (b, cs', ty), x = (b, cs', ty) ∨ (x ∈ l ∧ x.1 ≠ b) := by
  intro x hx
  obtain ⟨j, hj⟩ := List.getElem?_of_mem hx
  by_cases c : i = j
  ·
   subst c
   rw [List.getElem?_set_self hi] at hj
   injection hj with hj
   exact .inl hj.symm
  ·
   rw [List.getElem?_set_ne c] at hj
   refine .inr ⟨List.mem_of_getElem? hj, fun hx1 => c ?_⟩
   have hjl := (List.getElem?_eq_some_iff.1 hj).1
   have a1 : (l.map (·.1))[i]? = some b := by rw [List.getElem?_map, e]; rfl
   have a2 : (l.map (·.1))[j]? = some b := by rw [List.getElem?_map, hj, ← hx1]; rfl
   exact (List.getElem?_inj (by simpa using hi) K.nd).1 (a1.trans a2.symm)
 refine K.step h2 (fun k _ hk => by rw [hk]; exact List.mem_map.2 ⟨_, List.mem_of_getElem? e, rfl⟩) (fun x hx => ?_) (fun x hx => ?_) (by rw [hm]; exact K.nd)
 ·
  rcases hin x hx with rfl | ⟨hx, hn⟩
  ·
   exact h1
  ·
   exact (K.all x hx).fr h2 hn
 ·
  rw [← hm]
  exact .inl (List.mem_map.2 ⟨x, hx, rfl⟩)
theorem Ta.row (K : Ta R l t w) (e : l[i]? = some (b, cs, ty)) (cs' : Array Value) : Ta R (l.set i (b, cs', ty)) t (w.setRow b cs') := K.put e cs' ((K.at e).row cs') (Mv.setRow w b cs')
theorem Ta.set (K : Ta R l t w) (e : l[i]? = some (b, cs, ty)) (j : Nat) (v : Value) : Ta R (l.set i (b, cs.setIfInBounds j v, ty)) t (w.setCell ⟨b, j, none⟩ v) := K.put e _ ((K.at e).set j v) (Mv.setCell w b j v)
theorem Ta.mid (K : Ta R l t w) (e : l[i]? = some (b, cs, ty)) (o : Nat) (vs : List Value) : Ta R (l.set i (b, setL cs o vs, ty)) t (w.setCells b o vs) := K.put e _ (Blk.setCells vs o cs w (K.at e)) (Mv.setCells b vs o w)
end
section
variable {P : Program} {ops : Array Oper} {Q : Exit → Act → World → Prop} {a : Act} {w : World} {R : Tr} {rest : List Oper} {o : Oper} {l : List (Nat × Array Value × TypeId)} {b i : Nat} {cs : Array Value} {t0 : TypeId} {t : TS}
theorem ta_box (K : Ta R l t w) (ty : TypeId) (x : Operand) (cs : Array Value) (ho : o.op = .box ty x) (hx : a.eval x = .agg cs) (hw : Region.wanted o (yielded ops a.tmps) = true)
 (h : ∀ b w', b = w.heap.size → Ta R (l ++ [(b, cs, ty)]) t w' → wpList P ops Q rest (a.put o.dst (.pointer (some ⟨b, 0, none⟩))) w') : wpList P ops Q (o :: rest) a w := by
 refine BigFrame.wpList_want hw fun K' hK => ?_
 unfold Oper.wp execOp
 simp only [ho, hx, Instr.box, Sem.run_bind, newVar, Sem.run_pure]
 exact hK _ _ (h _ _ rfl (K.alloc cs ty))
theorem ta_alloc (K : Ta R l t w) (ty : TypeId) (z : Array Value) (ho : o.op = .alloc ty) (hz : ∀ W : World, (zeroValue ty).run P W = .ok (.agg z) W) (hw : Region.wanted o (yielded ops a.tmps) = true)
 (h : ∀ b w', b = w.heap.size → Ta R (l ++ [(b, z, ty)]) t w' → wpList P ops Q rest (a.put o.dst (.pointer (some ⟨b, 0, none⟩))) w') : wpList P ops Q (o :: rest) a w := by
 refine BigFrame.wpList_want hw fun K' hK => ?_
 unfold Oper.wp execOp
 simp only [ho, Instr.alloc, Sem.run_bind, hz, Result.andThen_ok, newVar, Sem.run_pure]
 exact hK _ _ (h _ _ rfl (K.alloc z ty))
theorem ta_row (K : Ta R l t w) (i : Nat) (e : l[i]? = some (b, cs, t0)) (ty : TypeId) (x y : Operand) (cs' : Array Value) (ho : o.op = .store ty x y) (hg : o.guard = none) (hx : a.eval x = .pointer (some ⟨b, 0, none⟩)) (hy : a.eval y = .agg cs')
 (hi : (P.info? ty).map (·.size) = some cs'.size) (hs : cs.size = cs'.size) (h1 : cs'.all (·.oneCell') = true)
 (h : ∀ w', Ta R (l.set i (b, cs', t0)) t w' → wpList P ops Q rest (a.put o.dst undef) w') : wpList P ops Q (o :: rest) a w :=
 wpList_store_row hg ty x y ho b cs' hx hy t0 cs (K.at e) hi hs h1 (h _ (K.row e cs'))
theorem ta_set (K : Ta R l t w) (i : Nat) (e : l[i]? = some (b, cs, t0)) (ty : TypeId) (x y : Operand) (j : Nat) (v : Value) (ho : o.op = .store ty x y) (hw : Region.wanted o (yielded ops a.tmps) = true) (hx : a.eval x = .pointer (some ⟨b, j, none⟩)) (hy : a.eval y = v)
 (hrun : (Instr.storeAt ty (.pointer (some ⟨b, j, none⟩)) v).run P w = .ok () (w.setCell ⟨b, j, none⟩ v)) (cs' : Array Value) (hc : cs.setIfInBounds j v = cs')
 (h : ∀ w', Ta R (l.set i (b, cs', t0)) t w' → wpList P ops Q rest (a.put o.dst undef) w') : wpList P ops Q (o :: rest) a w :=
 BigFrame.wpList_want hw fun K' hK => wp_store_cell ty x y ho ⟨b, j, none⟩ v hx hy hrun (hK _ _ (h _ (by rw [← hc]; exact K.set e j v)))
theorem ta_run_set (K : Ta R l t w) (e : l[i]? = some (b, cs, t0)) (ty : TypeId) (j : Nat) (u v : Value) (hu : cs[j]? = some u) (h : ∀ W : World, W.cell? ⟨b, j, none⟩ = some u → W.frozen? ⟨b, j, none⟩ = false → (Instr.storeAt ty (.pointer (some ⟨b, j, none⟩)) v).run P W = .ok () (W.setCell ⟨b, j, none⟩ v)) :
 (Instr.storeAt ty (.pointer (some ⟨b, j, none⟩)) v).run P w = .ok () (w.setCell ⟨b, j, none⟩ v) := h w (K.cell e hu) ((K.at e).free j)
theorem ta_call (K : Ta R l t w) (f : FuncId) (args : Array Value) (v : Value) (hw : Region.wanted o (yielded ops a.tmps) = true) (hv : (execOp a.eval o).run P w = .ok (.enter f args) w)
 (hc : Calls P f args w fun e w' => e = .returned v ∧ Below w.heap.size w w') (h : ∀ w', Ta R l t w' → wpList P ops Q rest (a.put o.dst v) w') : wpList P ops Q (o :: rest) a w :=
 BigFrame.wpList_want hw fun K' hK => by
  unfold Oper.wp
  simp only [hv, Oper.upon]
  exact hc.mono fun e w' ⟨he, hb⟩ => by subst he; exact hK _ _ (h w' (K.next hb))
theorem ta_act (K : Ta R l t w) (f : FuncId) (args : Array Value) (t' : TS) (hw : Region.wanted o (yielded ops a.tmps) = true) (hv : (execOp a.eval o).run P w = .ok (.enter f args) w)
 (hc : ∀ tv fv, Tact w R.c tv fv t → Calls P f args w fun e w' => e = .returned (.tuple #[]) ∧ Done w R.c tv fv t' w') (h : ∀ w', Ta R l t' w' → wpList P ops Q rest (a.put o.dst (.tuple #[])) w') : wpList P ops Q (o :: rest) a w := by
 obtain ⟨tv, fv, h1, h2, h3⟩ := K.act
 refine BigFrame.wpList_want hw fun K' hK => ?_
 unfold Oper.wp
 simp only [hv, Oper.upon]
 refine (hc tv fv h1).mono fun e w' ⟨he, tv', fv', k1, k2, k3⟩ => ?_
 subst he
 exact hK _ _ (h w' (K.act_step h1 h2 h3 k1 k2 k3))
theorem ta_all (K : Ta R l t w) (i : Nat) (e : l[i]? = some (b, cs, t0)) (ty : TypeId) (x : Operand) (ho : o.op = .load ty x) (hx : a.eval x = .pointer (some ⟨b, 0, none⟩)) {d : TypeDesc} (hu : P.underlying ty = some d)
 (hd : (match d with | .struct _ | .array _ _ => true | _ => false) = true) (hi : (P.info? ty).map (·.size) = some cs.size) : (execOp a.eval o).run P w = .ok (.value (.agg cs)) w :=
 run_loadVar_of ty x ho b hx t0 cs d (K.at e) hu hd hi
end
end
section
open Go.RowKit
theorem cells_set {α : Type} {enc : α → List Value} {size : Nat} (henc : ∀ x, (enc x).length = size) (j : Nat) (hj : j < size) (u : Value) (x' : α) : ∀ (l : List α) (k : Nat) (x : α), l[k]? = some x → enc x' = (enc x).set j u → (cellsL enc l).set (k * size + j) u = cellsL enc (l.set k x')
 | [], k, x, h, _ => by simp at h
 | y :: l, 0, x, h, he => by
  simp only [List.getElem?_cons_zero, Option.some.injEq] at h
  subst h
  rw [cellsL_cons, Nat.zero_mul, Nat.zero_add, List.set_append_left _ _ (by rw [henc]; exact hj), ← he]
  rfl
 | y :: l, k + 1, x, h, he => by
  have e : (k + 1) * size + j = size + (k * size + j) := by rw [Nat.succ_mul]; omega
  rw [cellsL_cons, e, List.set_append_right _ _ (by rw [henc]; omega), henc, Nat.add_sub_cancel_left, cells_set henc j hj u x' l k x (by simpa using h) he]
  rfl
theorem Own.setOne {α : Type} {enc : α → List Value} {size g cap n B j : Nat} {w : World} {e : TypeId} {l : List α} (henc : ∀ x, (enc x).length = size) (h : Own w B e size enc (.slice (some ⟨g, 0, none⟩) n cap) l) (hn : n = l.length) (k : Nat) (x x' : α) (u : Value)
 (hx : l[k]? = some x) (hj : j < size) (he : enc x' = (enc x).set j u) : Own (w.setCell ⟨g, k * size + j, none⟩ u) B e size enc (.slice (some ⟨g, 0, none⟩) n cap) (l.set k x') := by
 subst hn
 obtain ⟨h1, -⟩ := World.ownsRow.stored h (k * size + j) u
 rw [cells_set henc j hj u x' l k x hx he] at h1
 unfold Own
 rw [List.length_set]
 exact h1
def TS.setPo (t : TS) (l : List Po) : TS := ⟨⟨t.s.cf, l, t.s.vl, t.s.st, t.s.fd, t.s.c, t.s.beat⟩, t.told, t.fl⟩
def TS.setBeat (t : TS) (k : Int) : TS := ⟨⟨t.s.cf, t.s.po, t.s.vl, t.s.st, t.s.fd, t.s.c, k⟩, t.told, t.fl⟩
def TS.tell (t : TS) (x : Td) : TS := ⟨t.s, t.told ++ [x], t.fl⟩
def TS.flush (t : TS) (x : Int) : TS := ⟨t.s, t.told, t.fl ++ [x]⟩
theorem act_low (t : TS) (v1 v2 v3 v4 tv fv : Value) (j : Nat) (v : Value) (h : (stL t.s v1 v2 v3 v4)[j]? = some v) : (actA t v1 v2 v3 v4 tv fv)[j]? = some v := by
 have hj : j < (stL t.s v1 v2 v3 v4).length := (List.getElem?_eq_some_iff.1 h).1
 unfold actA actL
 rw [List.getElem?_toArray, List.getElem?_append_left hj, h]
section
variable {w w' : World} {c : Cs} {tv fv : Value} {t : TS}
theorem Tact.cell (h : Tact w c tv fv t) (j : Nat) (v : Value) (e : (stL t.s c.v1 c.v2 c.v3 c.v4)[j]? = some v) : w.cell? ⟨c.b, j, none⟩ = some v := by
 rw [h.blk.cell j]
 exact act_low t _ _ _ _ tv fv j v e
theorem Tact.len (h : Tact w c tv fv t) : c.n = t.s.po.length ∧ c.n ≤ c.m ∧ c.m ≤ maxLen := by
 rcases h.o1.cases with ⟨e, e2⟩ | ⟨g, cap, e, -, -, h2, h3⟩
 ·
  injection e with e0 e1 e3
  rw [e1, e3, e2]
  exact ⟨rfl, Nat.le_refl _, Nat.zero_le _⟩
 ·
  injection e with e0 e1 e3
  rw [e1, e3]
  exact ⟨rfl, h2, h3⟩
theorem Tact.ptr (h : Tact w c tv fv t) {k : Nat} {x : Po} (hx : t.s.po[k]? = some x) : ∃ g, c.a = some ⟨g, 0, none⟩ := by
 rcases h.o1.cases with ⟨e, e2⟩ | ⟨g, cap, e, -, -, h2, h3⟩
 ·
  rw [e2] at hx; cases hx
 ·
  injection e with e0 e1 e3
  exact ⟨g, e0⟩
theorem Tact.own (h : Tact w c tv fv t) {g : Nat} (hg : c.a = some ⟨g, 0, none⟩) : Own w 0 73 21 poC (.slice (some ⟨g, 0, none⟩) t.s.po.length c.m) t.s.po := by
 have := h.o1
 unfold Cs.v1 at this
 rw [hg, h.len.1] at this
 exact this
theorem Tact.pcell (h : Tact w c tv fv t) {g k j : Nat} {x : Po} {v : Value} (hg : c.a = some ⟨g, 0, none⟩) (hx : t.s.po[k]? = some x) (hv : (poC x)[j]? = some v) : w.cell? ⟨g, k * 21 + j, none⟩ = some v := by
 have hj : j < 21 := by have := (List.getElem?_eq_some_iff.1 hv).1; rwa [po_len] at this
 rw [Own.at po_len (h.own hg) k j x hx hj]
 exact hv
theorem Tact.gfoot (h : Tact w c tv fv t) {g : Nat} (hg : c.a = some ⟨g, 0, none⟩) : foot c tv fv g := .inr (.inl (by show (Value.slice c.a c.n c.m).ownBlock = some g; rw [hg]; rfl))
theorem Tact.ports (h : Tact w c tv fv t) {g : Nat} (hg : c.a = some ⟨g, 0, none⟩) {w' : World} {l : List Po} (hf : Mv (fun k => k = g) w w') (hl : l.length = t.s.po.length) (ho : Own w' 0 73 21 poC (.slice (some ⟨g, 0, none⟩) l.length c.m) l) : Tact w' c tv fv (t.setPo l) := by
 have hgb : g ≠ c.b := fun e => h.b1 (by show (Value.slice c.a c.n c.m).ownBlock = _; rw [hg, e]; rfl)
 have hgo : c.v1.ownBlock = some g := by show (Value.slice c.a c.n c.m).ownBlock = _; rw [hg]; rfl
 have o1 : Own w' 0 73 21 poC c.v1 l := by
  show Own w' 0 73 21 poC (.slice c.a c.n c.m) l
  rw [hg, h.len.1, ← hl]
  exact ho
 exact ⟨h.blk.fr hf (fun e => hgb e.symm), o1, h.ot.fr hf (fun k hk e => h.a1t k (e ▸ hgo) hk), h.of.fr hf (fun k hk e => h.a1f k (e ▸ hgo) hk), h.b1, h.bt, h.bf, h.a1t, h.a1f, h.atf,
  h.gl.fr hf (fun e => h.g0 (e ▸ h.gfoot hg)), h.g0, by show l.length ≤ 100; rw [hl]; exact h.few⟩
theorem own_set {w : World} {g m n : Nat} {l : List Po} (h : Own w 0 73 21 poC (.slice (some ⟨g, 0, none⟩) l.length m) l) {k j : Nat} {x x' : Po} {u : Value} (hx : l[k]? = some x) (hj : j < 21) (he : poC x' = (poC x).set j u) : Own (w.setCell ⟨g, k * 21 + j, none⟩ u) 0 73 21 poC (.slice (some ⟨g, 0, none⟩) (l.set k x').length m) (l.set k x') := by
 rw [List.length_set]
 exact Own.setOne po_len h rfl k x x' u hx hj he
end
section
variable {w w' : World} {w0 : World} {T b n m : Nat} {a : Option Addr} {v2 v3 v4 : Value} {F : Nat → Prop} {l : List (Nat × Array Value × TypeId)} {t : TS}
theorem Ta.acell {c : Cs} (K : Ta ⟨w0, c, F⟩ l t w) (j : Nat) {v : Value} (e : (stL t.s c.v1 c.v2 c.v3 c.v4)[j]? = some v) : w.cell? ⟨c.b, j, none⟩ = some v := by
 obtain ⟨tv, fv, h1, -, -⟩ := K.act
 exact h1.cell j v e
theorem Ta.len {c : Cs} (K : Ta ⟨w0, c, F⟩ l t w) : c.n = t.s.po.length ∧ c.n ≤ c.m ∧ c.m ≤ maxLen := by
 obtain ⟨tv, fv, h1, -, -⟩ := K.act
 exact h1.len
theorem Ta.few {c : Cs} (K : Ta ⟨w0, c, F⟩ l t w) : c.n ≤ 100 := by
 obtain ⟨tv, fv, h1, -, -⟩ := K.act
 rw [h1.len.1]
 exact h1.few
theorem Ta.ptr {c : Cs} (K : Ta ⟨w0, c, F⟩ l t w) {k : Nat} {x : Po} (hx : t.s.po[k]? = some x) : ∃ g, c.a = some ⟨g, 0, none⟩ := by
 obtain ⟨tv, fv, h1, -, -⟩ := K.act
 exact h1.ptr hx
theorem Ta.pcell {c : Cs} (K : Ta ⟨w0, c, F⟩ l t w) {g k : Nat} {x : Po} (hg : c.a = some ⟨g, 0, none⟩) (hx : t.s.po[k]? = some x) (j : Nat) {v : Value} (hv : (poC x)[j]? = some v) : w.cell? ⟨g, k * 21 + j, none⟩ = some v := by
 obtain ⟨tv, fv, h1, -, -⟩ := K.act
 exact h1.pcell hg hx hv
theorem Ta.prange {c : Cs} (K : Ta ⟨w0, c, F⟩ l t w) {g k : Nat} {x : Po} (hg : c.a = some ⟨g, 0, none⟩) (hx : t.s.po[k]? = some x) : w.rangeAt g (k * 21) (poA x).toList := fun j v hv => by
 have := K.pcell hg hx j hv
 exact this
theorem Ta.roles {c : Cs} (K : Ta ⟨w0, c, F⟩ l t w) (j : Nat) {v : Value} (hv : rolesA[j]? = some v) : w.cell? ⟨0, j, none⟩ = some v := by
 obtain ⟨tv, fv, h1, -, -⟩ := K.act
 rw [h1.gl.cell j]
 exact hv
theorem Ta.conf {c : Cs} (K : Ta ⟨w0, c, F⟩ l t w) : ∃ cs ty, Blk w c.b cs ty ∧ ∀ k v, (cfC t.s.cf)[k]? = some v → cs[0 + k]? = some v := by
 obtain ⟨tv, fv, h1, -, -⟩ := K.act
 refine ⟨_, _, h1.blk, fun k v hv => act_low t _ _ _ _ tv fv (0 + k) v ?_⟩
 have := st_cf t.s c.v1 c.v2 c.v3 c.v4 k v hv
 unfold stA at this
 rwa [List.getElem?_toArray] at this
theorem Ta.pset {c : Cs} (K : Ta ⟨w0, c, F⟩ l t w) {g k j : Nat} {x x' : Po} {u : Value} (hg : c.a = some ⟨g, 0, none⟩) (hx : t.s.po[k]? = some x) (hj : j < 21) (he : poC x' = (poC x).set j u) : Ta ⟨w0, c, F⟩ l (t.setPo (t.s.po.set k x')) (w.setCell ⟨g, k * 21 + j, none⟩ u) := by
 obtain ⟨tv, fv, h1, h2, h3⟩ := K.act
 refine K.act_step h1 h2 h3 (h1.ports hg (Mv.setCell w g (k * 21 + j) u) (by rw [List.length_set]) (own_set (n := 0) (h1.own hg) hx hj he)) ((Mv.setCell w g _ u).mono fun q e => e ▸ h1.gfoot hg) (fun q e => .inl e)
theorem Ta.pput {c : Cs} (K : Ta ⟨w0, c, F⟩ l t w) {g k : Nat} {x' : Po} (hg : c.a = some ⟨g, 0, none⟩) (hk : k < t.s.po.length) : Ta ⟨w0, c, F⟩ l (t.setPo (t.s.po.set k x')) (w.setCells g (k * 21) (poA x').toList) := by
 obtain ⟨tv, fv, h1, h2, h3⟩ := K.act
 refine K.act_step h1 h2 h3 (h1.ports hg (Mv.setCells g _ _ w) (by rw [List.length_set]) ?_) ((Mv.setCells g _ _ w).mono fun q e => e ▸ h1.gfoot hg) (fun q e => .inl e)
 have := (h1.own hg).store po_len k x' hk
 rw [List.length_set]
 exact this.1
theorem Ta.pfree {c : Cs} (K : Ta ⟨w0, c, F⟩ l t w) {g : Nat} (hg : c.a = some ⟨g, 0, none⟩) (j : Nat) : w.frozen? ⟨g, j, none⟩ = false := by
 obtain ⟨tv, fv, h1, -, -⟩ := K.act
 exact (h1.own hg).free j
theorem Ta.pthere {c : Cs} (K : Ta ⟨w0, c, F⟩ l t w) {g k : Nat} (hg : c.a = some ⟨g, 0, none⟩) (hk : k < t.s.po.length) : w.there g (k * 21) 21 := by
 obtain ⟨tv, fv, h1, -, -⟩ := K.act
 exact (h1.own hg).there po_len k hk
end
theorem Ta.flush {w0 w1 w : World} {c : Cs} {F : Nat → Prop} {l : List (Nat × Array Value × TypeId)} {t : TS} {tv fv vS vR : Value} {x : Int} (K : Ta ⟨w0, c, F⟩ l t w1) (h1 : Tact w1 c tv fv t) (h2 : ∀ x ∈ l, ¬ foot c tv fv x.1) (h3 : ∀ k, foot c tv fv k → F k ∨ w0.heap.size ≤ k)
 (hp : ApW w1 0 3 1 inC fv t.fl x true true vS vR w) : Ta ⟨w0, c, F⟩ l (t.flush x) (w.setCell ⟨c.b, 26, none⟩ vR) := by
 have hf1 : Mv (fun k => fv.ownBlock = some k) w1 w := Mv.grown hp.g
 have hb : ¬ fv.ownBlock = some c.b := h1.bf
 have hpb := hp.pb rfl
 have hR : ∀ k, vR.ownBlock = some k → fv.ownBlock = some k ∨ w1.heap.size ≤ k := hpb
 have hRb : vR.ownBlock ≠ some c.b := fun e => by
  rcases hR _ e with q | q
  ·
   exact hb q
  ·
   have := h1.blk.lt; omega
 have hf : Mv (foot c tv fv) w1 (w.setCell ⟨c.b, 26, none⟩ vR) := (hf1.mono (fun k e => (.inr (.inr (.inr e)) : foot c tv fv k))).trans (Mv.setCell w c.b 26 vR) (fun k _ e => .inl e)
 have hs : Mv (fun k => k = c.b) w (w.setCell ⟨c.b, 26, none⟩ vR) := Mv.setCell w c.b 26 vR
 have kb : Blk w c.b (actA t c.v1 c.v2 c.v3 c.v4 tv fv) c.T := h1.blk.fr hf1 hb
 refine K.act_step h1 h2 h3 (tv' := tv) (fv' := vR) ⟨kb.set 26 vR, ?_, ?_, ?_, h1.b1, h1.bt, hRb, h1.a1t, fun k e1 e2 => ?_, fun k e1 e2 => ?_, ?_, ?_, h1.few⟩ hf (fun k hk => ?_)
 ·
  exact (h1.o1.fr hf1 (fun k e e2 => h1.a1f k e e2)).fr hs (fun k e e2 => h1.b1 (e2 ▸ e))
 ·
  exact (h1.ot.fr hf1 (fun k e e2 => h1.atf k e e2)).fr hs (fun k e e2 => h1.bt (e2 ▸ e))
 ·
  exact (hp.pr rfl).fr hs (fun k e e2 => hRb (e2 ▸ e))
 ·
  rcases hR k e2 with q | q
  ·
   exact h1.a1f k e1 q
  ·
   have := (h1.o1.lt k e1).2; omega
 ·
  rcases hR k e2 with q | q
  ·
   exact h1.atf k e1 q
  ·
   have := (h1.ot.lt k e1).2; omega
 ·
  exact (h1.gl.fr hf1 (fun e => h1.g0 (.inr (.inr (.inr e))))).fr hs (fun e => h1.g0 (.inl e))
 ·
  rintro (e | e | e | e)
  ·
   exact h1.g0 (.inl e)
  ·
   exact h1.g0 (.inr (.inl e))
  ·
   exact h1.g0 (.inr (.inr (.inl e)))
  ·
   rcases hR 0 e with q | q
   ·
    exact h1.g0 (.inr (.inr (.inr q)))
   ·
    have := h1.gl.lt; omega
 ·
  rcases hk with e | e | e | e
  ·
   exact .inl (.inl e)
  ·
   exact .inl (.inr (.inl e))
  ·
   exact .inl (.inr (.inr (.inl e)))
  ·
   rcases hR k e with q | q
   ·
    exact .inl (.inr (.inr (.inr q)))
   ·
    exact .inr q
theorem Ta.tell {w0 w1 w : World} {c : Cs} {F : Nat → Prop} {l : List (Nat × Array Value × TypeId)} {t : TS} {tv fv vS vR : Value} {x : Td} (K : Ta ⟨w0, c, F⟩ l t w1) (h1 : Tact w1 c tv fv t) (h2 : ∀ x ∈ l, ¬ foot c tv fv x.1) (h3 : ∀ k, foot c tv fv k → F k ∨ w0.heap.size ≤ k)
 (hp : ApW w1 0 89 17 tdC tv t.told x true true vS vR w) : Ta ⟨w0, c, F⟩ l (t.tell x) (w.setCell ⟨c.b, 25, none⟩ vR) := by
 have hf1 : Mv (fun k => tv.ownBlock = some k) w1 w := Mv.grown hp.g
 have hb : ¬ tv.ownBlock = some c.b := h1.bt
 have hR : ∀ k, vR.ownBlock = some k → tv.ownBlock = some k ∨ w1.heap.size ≤ k := hp.pb rfl
 have hRb : vR.ownBlock ≠ some c.b := fun e => by
  rcases hR _ e with q | q
  ·
   exact hb q
  ·
   have := h1.blk.lt; omega
 have hf : Mv (foot c tv fv) w1 (w.setCell ⟨c.b, 25, none⟩ vR) := (hf1.mono (fun k e => (.inr (.inr (.inl e)) : foot c tv fv k))).trans (Mv.setCell w c.b 25 vR) (fun k _ e => .inl e)
 have hs : Mv (fun k => k = c.b) w (w.setCell ⟨c.b, 25, none⟩ vR) := Mv.setCell w c.b 25 vR
 have kb : Blk w c.b (actA t c.v1 c.v2 c.v3 c.v4 tv fv) c.T := h1.blk.fr hf1 hb
 refine K.act_step h1 h2 h3 (tv' := vR) (fv' := fv) ⟨kb.set 25 vR, ?_, ?_, ?_, h1.b1, hRb, h1.bf, fun k e1 e2 => ?_, h1.a1f, fun k e1 e2 => ?_, ?_, ?_, h1.few⟩ hf (fun k hk => ?_)
 ·
  exact (h1.o1.fr hf1 (fun k e e2 => h1.a1t k e e2)).fr hs (fun k e e2 => h1.b1 (e2 ▸ e))
 ·
  exact (hp.pr rfl).fr hs (fun k e e2 => hRb (e2 ▸ e))
 ·
  exact (h1.of.fr hf1 (fun k e e2 => h1.atf k e2 e)).fr hs (fun k e e2 => h1.bf (e2 ▸ e))
 ·
  rcases hR k e2 with q | q
  ·
   exact h1.a1t k e1 q
  ·
   have := (h1.o1.lt k e1).2; omega
 ·
  rcases hR k e1 with q | q
  ·
   exact h1.atf k q e2
  ·
   have := (h1.of.lt k e2).2; omega
 ·
  exact (h1.gl.fr hf1 (fun e => h1.g0 (.inr (.inr (.inl e))))).fr hs (fun e => h1.g0 (.inl e))
 ·
  rintro (e | e | e | e)
  ·
   exact h1.g0 (.inl e)
  ·
   exact h1.g0 (.inr (.inl e))
  ·
   rcases hR 0 e with q | q
   ·
    exact h1.g0 (.inr (.inr (.inl q)))
   ·
    have := h1.gl.lt; omega
  ·
   exact h1.g0 (.inr (.inr (.inr e)))
 ·
  rcases hk with e | e | e | e
  ·
   exact .inl (.inl e)
  ·
   exact .inl (.inr (.inl e))
  ·
   rcases hR k e with q | q
   ·
    exact .inl (.inr (.inr (.inl q)))
   ·
    exact .inr q
  ·
   exact .inl (.inr (.inr (.inr e)))
theorem Ta.setBeat {w0 w : World} {c : Cs} {F : Nat → Prop} {l : List (Nat × Array Value × TypeId)} {t : TS} (K : Ta ⟨w0, c, F⟩ l t w) (k : Int) : Ta ⟨w0, c, F⟩ l (t.setBeat k) (w.setCell ⟨c.b, 24, none⟩ (.int .i64 k)) := by
 obtain ⟨tv, fv, h1, h2, h3⟩ := K.act
 have hs : Mv (fun k => k = c.b) w (w.setCell ⟨c.b, 24, none⟩ (.int .i64 k)) := Mv.setCell w c.b 24 _
 exact K.act_step h1 h2 h3 (tv' := tv) (fv' := fv) ⟨h1.blk.set 24 _, h1.o1.fr hs (fun k e e2 => h1.b1 (e2 ▸ e)), h1.ot.fr hs (fun k e e2 => h1.bt (e2 ▸ e)), h1.of.fr hs (fun k e e2 => h1.bf (e2 ▸ e)), h1.b1, h1.bt, h1.bf, h1.a1t, h1.a1f, h1.atf,
  h1.gl.fr hs (fun e => h1.g0 (.inl e)), h1.g0, h1.few⟩ (hs.mono fun q e => .inl e) (fun q e => .inl e)
end
section
open Go.RowKit
attribute [local irreducible] wpQuiet wpList
set_option maxRecDepth 100000 in
set_option maxHeartbeats 8000000 in
theorem edge_any (x : Po) (w : World) : Calls Tryd.prog 67 #[poV x] w fun e w' => e = .returned (.bool (edgeB x)) ∧ Below w.heap.size w w' := by
 cases h5 : x.p5
 case false =>
  rw [show poV x = .agg (poA { x with p5 := false }) from by rw [← h5]]
  have K := Lib.hid (Kb.nil w)
  go_enter Tryd.func67, Tryd.ntmps67
  go_upto_region 0 with fail
  refine wp_region_lit ?_
  refine kb_box K.out 73 (.tmp 0) (poA { x with p5 := false }) rfl rfl (by rfl) (pz (h := ?_))
  intro b1 w1 K1
  refine wz1 (.bool false) (h := nz ?_)
  go_upto_region 1 with fail
  refine lz (wz3 (pT b1 5) (.bool false) (.bool false) (h2 := by have q : w1.cell? ⟨b1, 5, none⟩ = some (.bool false) := K1.out.cell (i := 0) rfl (by rfl); go_simp) (h := wk (h := wk (h := wz2 (.bool false) (.bool false) (h1 := by exact run_pick_no (.tmp 5) (.tmp 7) (.const (.bool false)) _ rfl rfl rfl) (h := nz ?_)))))
  go_wp2_with fail
  go_ret
  exact ⟨ret_bool (by simp [edgeB, h5]), K1.out.below⟩
 case true =>
  rw [show poV x = .agg (poA { x with p5 := true }) from by rw [← h5]]
  have K := Lib.hid (Kb.nil w)
  go_enter Tryd.func67, Tryd.ntmps67
  go_upto_region 0 with fail
  refine wp_region_lit ?_
  refine kb_box K.out 73 (.tmp 0) (poA { x with p5 := true }) rfl rfl (by rfl) (pz (h := ?_))
  intro b1 w1 K1
  refine wz1 (.bool false) (h := nz ?_)
  go_upto_region 1 with fail
  refine lz (wz6 (pT b1 5) (.bool true) (.bool true) (pT b1 8) (.bool x.p8) (.bool x.p8) (h2 := by have q : w1.cell? ⟨b1, 5, none⟩ = some (.bool true) := K1.out.cell (i := 0) rfl (by rfl); go_simp) (h5 := by have q : w1.cell? ⟨b1, 8, none⟩ = some (.bool x.p8) := K1.out.cell (i := 0) rfl (by rfl); go_simp) (h6 := by exact run_pick_yes (.tmp 5) (.tmp 7) (.const (.bool false)) _ rfl rfl rfl) (h := wz1 (.bool x.p8) (h := nz ?_)))
  go_wp2_with fail
  go_ret
  exact ⟨ret_bool (by simp [edgeB, h5]), K1.out.below⟩
set_option maxRecDepth 100000 in
set_option maxHeartbeats 8000000 in
theorem opened_any (x y : Po) (w : World) : Calls Tryd.prog 62 #[poV x, poV y] w fun e w' => e = .returned (.bool (openedB x y)) ∧ Below w.heap.size w w' := by
 by_cases h1 : y.p11 = 2
 case neg =>
  have K := Lib.hid (Kb.nil w)
  go_enter Tryd.func62, Tryd.ntmps62
  go_upto_region 0 with fail
  refine wp_region_lit ?_
  refine kb_box K.out 73 (.tmp 0) (poA x) rfl rfl (by rfl) (pz (h := ?_))
  intro b1 w1 K1
  refine kb_box K1.out 73 (.tmp 1) (poA y) rfl rfl (by rfl) (pz (h := ?_))
  intro b2 w2 K2
  refine wz1 (.bool false) (h := nz ?_)
  go_upto_region 1 with fail
  refine lz (wz4 (pT b2 11) (iV y.p11) (.bool false) (.bool false) (h2 := by have q : w2.cell? ⟨b2, 11, none⟩ = some (iV y.p11) := K2.out.cell (i := 1) rfl (by rfl); go_simp) (h3 := by have q := h1; go_simp) (h := wk (h := wk (h := wk (h := wz2 (.bool false) (.bool false) (h1 := by exact run_pick_no (.tmp 8) (.tmp 11) (.const (.bool false)) _ rfl rfl rfl) (h := nz ?_))))))
  go_wp2_with fail
  go_ret
  exact ⟨ret_bool (by simp [openedB, h1]), K2.out.below⟩
 case pos =>
  by_cases h2 : x.p11 = 2
  case pos =>
   have K := Lib.hid (Kb.nil w)
   go_enter Tryd.func62, Tryd.ntmps62
   go_upto_region 0 with fail
   refine wp_region_lit ?_
   refine kb_box K.out 73 (.tmp 0) (poA x) rfl rfl (by rfl) (pz (h := ?_))
   intro b1 w1 K1
   refine kb_box K1.out 73 (.tmp 1) (poA y) rfl rfl (by rfl) (pz (h := ?_))
   intro b2 w2 K2
   refine wz1 (.bool false) (h := nz ?_)
   go_upto_region 1 with fail
   refine lz (wz6 (pT b2 11) (iV y.p11) (.bool true) (.bool true) (pT b1 11) (iV x.p11) (h2 := by have q : w2.cell? ⟨b2, 11, none⟩ = some (iV y.p11) := K2.out.cell (i := 1) rfl (by rfl); go_simp) (h3 := by have q := h1; go_simp) (h6 := by have q : w2.cell? ⟨b1, 11, none⟩ = some (iV x.p11) := K2.out.cell (i := 0) rfl (by rfl); go_simp) (h := wz3 (.bool false) (.bool false) (.bool false) (h1 := by have q := h2; go_simp) (h2 := by exact run_pick_yes (.tmp 8) (.tmp 11) (.const (.bool false)) _ rfl rfl rfl) (h := nz ?_)))
   go_wp2_with fail
   go_ret
   exact ⟨ret_bool (by simp [openedB, h1, h2]), K2.out.below⟩
  case neg =>
   have K := Lib.hid (Kb.nil w)
   go_enter Tryd.func62, Tryd.ntmps62
   go_upto_region 0 with fail
   refine wp_region_lit ?_
   refine kb_box K.out 73 (.tmp 0) (poA x) rfl rfl (by rfl) (pz (h := ?_))
   intro b1 w1 K1
   refine kb_box K1.out 73 (.tmp 1) (poA y) rfl rfl (by rfl) (pz (h := ?_))
   intro b2 w2 K2
   refine wz1 (.bool false) (h := nz ?_)
   go_upto_region 1 with fail
   refine lz (wz6 (pT b2 11) (iV y.p11) (.bool true) (.bool true) (pT b1 11) (iV x.p11) (h2 := by have q : w2.cell? ⟨b2, 11, none⟩ = some (iV y.p11) := K2.out.cell (i := 1) rfl (by rfl); go_simp) (h3 := by have q := h1; go_simp) (h6 := by have q : w2.cell? ⟨b1, 11, none⟩ = some (iV x.p11) := K2.out.cell (i := 0) rfl (by rfl); go_simp) (h := wz3 (.bool true) (.bool true) (.bool true) (h1 := by have q := h2; go_simp) (h2 := by exact run_pick_yes (.tmp 8) (.tmp 11) (.const (.bool false)) _ rfl rfl rfl) (h := nz ?_)))
   go_wp2_with fail
   go_ret
   exact ⟨ret_bool (by simp [openedB, h1, h2]), K2.out.below⟩
set_option maxRecDepth 100000 in
set_option maxHeartbeats 8000000 in
theorem rest_any (x : Po) (s : Int) (w : World) : Calls Tryd.prog 72 #[poV x, .int .i64 s] w fun e w' => e = .returned (poV (restP x s)) ∧ Below w.heap.size w w' := by
 have K := Lib.hid (Kb.nil w)
 go_enter Tryd.func72, Tryd.ntmps72
 go_upto_region 0 with fail
 refine wp_region_lit ?_
 refine kb_box K.out 73 (.tmp 0) (poA x) rfl rfl (by rfl) (pz (h := ?_))
 intro b1 w1 K1
 refine kb_alloc K1.out 73 (nil21) rfl z50 (by rfl) (pz (h := ?_))
 intro b2 w2 K2
 refine wpList_nil ?_
 go_upto_region 1 with fail
 refine lz (wz2 (iV s) (pT b1 11) (h := ?_))
 refine kb_set K2.out 0 rfl 3 _ _ 11 (.int .i64 s) rfl (by rfl) rfl rfl (kb_run_set K2.out (i := 0) rfl 3 11 (.int .i64 x.p11) (.int .i64 s) (by rfl) (fun W h1 h2 => by go_simp)) (poA { x with p11 := s }) (by kernel_rfl) (py (h := ?_))
 intro w3 K3
 refine wz1 (pT b1 9) (h := ?_)
 refine kb_set K3.out 0 rfl 4 _ _ 9 (.bool false) rfl (by rfl) rfl rfl (kb_run_set K3.out (i := 0) rfl 4 9 (.bool x.p9) (.bool false) (by rfl) (fun W h1 h2 => by go_simp)) (poA { x with p9 := false, p11 := s }) (by kernel_rfl) (py (h := ?_))
 intro w4 K4
 refine wz1 (pT b1 19) (h := ?_)
 refine kb_set K4.out 0 rfl 3 _ _ 19 (.int .i64 0) rfl (by rfl) rfl rfl (kb_run_set K4.out (i := 0) rfl 3 19 (.int .i64 x.p19) (.int .i64 0) (by rfl) (fun W h1 h2 => by go_simp)) (poA { x with p9 := false, p11 := s, p19 := 0 }) (by kernel_rfl) (py (h := ?_))
 intro w5 K5
 refine wpList_nil ?_
 go_upto_region 2 with fail
 refine lz (wz1 (.agg (poA { x with p9 := false, p11 := s, p19 := 0 })) (h1 := by exact kb_all K5.out 0 rfl 73 _ rfl rfl Tryd.underlying73 rfl (size50)) (h := ?_))
 refine kb_row K5.out 1 rfl 73 _ _ (poA { x with p9 := false, p11 := s, p19 := 0 }) rfl rfl rfl rfl (size50) (by rfl) (po_all _) (py (h := ?_))
 intro w6 K6
 refine wpList_nil ?_
 go_wp2_with fail
 refine bodyPost_ret (v := .agg (poA { x with p9 := false, p11 := s, p19 := 0 })) (results_cell_row Tryd.results72 _ _ b2 73 (poA { x with p9 := false, p11 := s, p19 := 0 }) (0, 0) _ rfl (K6.out.at (i := 1) rfl) Tryd.underlying73 rfl (po_info _)) rfl ?_
 exact ⟨rfl, K6.out.below⟩
theorem edge_is (x : Po) (b : Bool) (h : edgeB x = b) (w : World) : Calls Tryd.prog 67 #[poV x] w fun e w' => e = .returned (.bool b) ∧ Below w.heap.size w w' := h ▸ edge_any x w
theorem opened_is (x y : Po) (b : Bool) (h : openedB x y = b) (w : World) : Calls Tryd.prog 62 #[poV x, poV y] w fun e w' => e = .returned (.bool b) ∧ Below w.heap.size w w' := h ▸ opened_any x y w
theorem rest_is (x : Po) (s : Int) (q : Po) (h : restP x s = q) (w : World) : Calls Tryd.prog 72 #[poV x, .int .i64 s] w fun e w' => e = .returned (poV q) ∧ Below w.heap.size w w' := h ▸ rest_any x s w
end
end Go.Proofs.YteeinlbhcdpnnaaDoor
