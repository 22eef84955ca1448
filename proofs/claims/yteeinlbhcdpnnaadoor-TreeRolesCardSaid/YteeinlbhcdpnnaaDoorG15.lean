import Derived.Test.YteeinlbhcdpnnaaDoorG14
import Derived.Test.YteeinlbhcdpnnaaDoorG4
import Derived.Test.YteeinlbhcdpnnaaDoorG11
import Derived.Test.YteeinlbhcdpnnaaDoorG13
import Derived.Test.YteeinlbhcdpnnaaDoorG10
import Derived.Test.YteeinlbhcdpnnaaDoorG1
set_option linter.unusedSimpArgs false
set_option linter.unusedVariables false
namespace Go.Proofs.YteeinlbhcdpnnaaDoor
section
open Go.RowKit
attribute [local irreducible] wpQuiet wpList
def tickM (s : St) : TS :=
 let t3 := stepMM (chooseM (fadeM ⟨s, [], []⟩))
 let t4 := t3.setBeat (IntKind.i64.wrap (t3.s.beat - 1))
 if t4.s.beat ≤ 0 then beatM (t4.setBeat t4.s.cf.p2) else t4
structure Left (w : World) (t : TS) (u1 u2 u3 u4 tv fv : Value) (w' : World) : Prop where
 own : OwS w' w.heap.size t.s u1 u2 u3 u4
 told : Own w' w.heap.size 89 17 tdC tv t.told
 fl : Own w' w.heap.size 3 1 inC fv t.fl
 below : Below w.heap.size w w'
theorem Begun.back {w W w5 w8 : World} {s : St} {c : Cs} {l : List (Nat × Array Value × TypeId)} {t : TS} (K : Kb w l W) (h : Begun W s c w5) (hT : Ta ⟨w5, c, foot c (.slice none 0 0) (.slice none 0 0)⟩ [] t w8) (hs : t.s.vl = s.vl ∧ t.s.st = s.st ∧ t.s.fd = s.fd) :
 ∃ tv fv, Tact w8 c tv fv t ∧ Kb w l w8 ∧ Left w t c.v1 c.v2 c.v3 c.v4 tv fv w8 ∧ ∀ k, (c.v1.ownBlock = some k ∨ c.v2.ownBlock = some k ∨ c.v3.ownBlock = some k ∨ c.v4.ownBlock = some k ∨ tv.ownBlock = some k ∨ fv.ownBlock = some k) → W.heap.size ≤ k := by
 obtain ⟨tv, fv, a1, -, a3⟩ := hT.act
 have hw : w.heap.size ≤ W.heap.size := K.below.size
 have hft : ∀ k, foot c (.slice none 0 0) (.slice none 0 0) k → W.heap.size ≤ k := by
  rintro k (e | e | e | e)
  ·
   rw [e]; exact h.new
  ·
   exact (h.own.o1.lt k e).1
  ·
   cases e
  ·
   cases e
 have hb5 : Below W.heap.size W w5 := h.below
 have hb8 : Below W.heap.size W w8 := by
  refine hb5.trans ⟨hT.fr.os, hT.fr.tape, hT.fr.output, hT.fr.size, fun k hk => hT.fr.block k (Nat.lt_of_lt_of_le hk hb5.size) (fun f => ?_)⟩
  have := hft k f
  omega
 have hnf : ∀ k, (c.v2.ownBlock = some k ∨ c.v3.ownBlock = some k ∨ c.v4.ownBlock = some k) → ¬ foot c (.slice none 0 0) (.slice none 0 0) k := by
  rintro k hk (e | e | e | e)
  ·
   have := h.last k (.inr hk); omega
  ·
   rcases hk with q | q | q
   ·
    exact h.apart.n12 k e q
   ·
    exact h.apart.n13 k e q
   ·
    exact h.apart.n14 k e q
  ·
   cases e
  ·
   cases e
 have hge2 : ∀ k, foot c tv fv k → W.heap.size ≤ k := fun k hk => by
  rcases a3 k hk with q | q
  ·
   exact hft k q
  ·
   exact Nat.le_trans hb5.size q
 have hge : ∀ k, foot c tv fv k → w.heap.size ≤ k := fun k hk => Nat.le_trans hw (hge2 k hk)
 refine ⟨tv, fv, a1, K.next hb8, ⟨⟨a1.o1.up (fun k e => hge k (.inr (.inl e))), ?_, ?_, ?_, ?_⟩, a1.ot.up (fun k e => hge k (.inr (.inr (.inl e)))), a1.of.up (fun k e => hge k (.inr (.inr (.inr e)))), K.below.trans (hb8.mono hw)⟩, fun k hk => ?_⟩
 ·
  rw [hs.1]; exact (h.own.o2.fr hT.fr (fun k e => hnf k (.inl e))).mono hw
 ·
  rw [hs.2.1]; exact (h.own.o3.fr hT.fr (fun k e => hnf k (.inr (.inl e)))).mono hw
 ·
  rw [hs.2.2]; exact (h.own.o4.fr hT.fr (fun k e => hnf k (.inr (.inr e)))).mono hw
 ·
  rw [hs.1, hs.2.1, hs.2.2]
  exact ⟨a1.few, h.own.few.2⟩
 ·
  rcases hk with e | e | e | e | e | e
  ·
   exact hge2 k (.inr (.inl e))
  ·
   exact (h.own.o2.lt k e).1
  ·
   exact (h.own.o3.lt k e).1
  ·
   exact (h.own.o4.lt k e).1
  ·
   exact hge2 k (.inr (.inr (.inl e)))
  ·
   exact hge2 k (.inr (.inr (.inr e)))
end
section
open Go.RowKit
attribute [local irreducible] wpQuiet wpList
def TS.rest (t : TS) : List Vr × List Sr × List Fr × (Nat → Int) := (t.s.vl, t.s.st, t.s.fd, t.s.c)
theorem mapTo_rest (f : Nat → Po → Po) (t : TS) : ∀ k, (mapTo f t k).rest = t.rest
 | 0 => rfl
 | k + 1 => by
  have a := mapTo_rest f t k
  show (mapStep f (mapTo f t k) k).rest = _
  unfold mapStep
  split
  ·
   exact a
  ·
   exact a
theorem chgTo_rest (h : Int) (i : Nat) (t : TS) : ∀ k, (chgTo h i t k).rest = t.rest
 | 0 => rfl
 | k + 1 => by
  have a := chgTo_rest h i t k
  show (chgStep h i (chgTo h i t k) k).rest = _
  unfold chgStep
  split
  ·
   split
   ·
    exact a
   ·
    split
    ·
     exact a
    ·
     exact a
  ·
   exact a
theorem changedM_rest (t : TS) (i : Nat) : (changedM t i).rest = t.rest := by
 unfold changedM
 cases c : t.s.po[i]? with
 | none => rfl
 | some x =>
  show (if edgeB x = true then t else chgTo (twoH t) i (t.setPo (t.s.po.set i (chP x (twoH t)))) t.s.po.length).rest = _
  split
  ·
   rfl
  ·
   exact chgTo_rest _ _ _ _
theorem foldChanged_rest (t : TS) (idx : List Nat) : ∀ j, (foldT changedM t idx j).rest = t.rest
 | 0 => rfl
 | j + 1 => by
  have a := foldChanged_rest t idx j
  show (match idx[j]? with | some i => changedM (foldT changedM t idx j) i | none => foldT changedM t idx j).rest = _
  split
  ·
   exact (changedM_rest _ _).trans a
  ·
   exact a
theorem fadeM_rest (t : TS) : (fadeM t).rest = t.rest := mapTo_rest _ _ _
theorem chooseM_rest (t : TS) : (chooseM t).rest = t.rest := by
 have c := (foldTell_is (foldT changedM (mapTo (asF t) t t.s.po.length) (markTo (openF t) t.s.po t.s.po.length) (markTo (openF t) t.s.po t.s.po.length).length) (markTo (anewF t) t.s.po t.s.po.length) (markTo (anewF t) t.s.po t.s.po.length).length).1
 have e : (chooseM t).rest = (foldT changedM (mapTo (asF t) t t.s.po.length) (markTo (openF t) t.s.po t.s.po.length) (markTo (openF t) t.s.po t.s.po.length).length).rest := congrArg (fun z : St => (z.vl, z.st, z.fd, z.c)) c
 rw [e, foldChanged_rest, mapTo_rest]
theorem stepMM_rest (t : TS) : (stepMM t).rest = t.rest := (foldChanged_rest _ _ _).trans (mapTo_rest _ _ _)
theorem beatM_rest (t : TS) : (beatM t).rest = t.rest := congrArg (fun z : St => (z.vl, z.st, z.fd, z.c)) (beatM_is t).1
theorem ta_beat {P : Program} {ops : Array Oper} {Q : Exit → Act → World → Prop} {a : Act} {w w0 : World} {c : Cs} {F : Nat → Prop} {rest : List Oper} {o : Oper} {l : List (Nat × Array Value × TypeId)} {t : TS} (K : Ta ⟨w0, c, F⟩ l t w) (ty : TypeId) (px py : Operand) (k : Int) (ho : o.op = .store ty px py) (hw : Region.wanted o (yielded ops a.tmps) = true)
 (hpx : a.eval px = .pointer (some ⟨c.b, 24, none⟩)) (hpy : a.eval py = .int .i64 k) (hrun : ∀ W : World, W.cell? ⟨c.b, 24, none⟩ = some (.int .i64 t.s.beat) → W.frozen? ⟨c.b, 24, none⟩ = false → (Instr.storeAt ty (.pointer (some ⟨c.b, 24, none⟩)) (.int .i64 k)).run P W = .ok () (W.setCell ⟨c.b, 24, none⟩ (.int .i64 k)))
 (h : ∀ w', Ta ⟨w0, c, F⟩ l (t.setBeat k) w' → wpList P ops Q rest (a.put o.dst undef) w') : wpList P ops Q (o :: rest) a w := by
 obtain ⟨tv, fv, a1, -, -⟩ := K.act
 exact BigFrame.wpList_want hw fun K' hK => wp_store_cell ty px py ho ⟨c.b, 24, none⟩ (.int .i64 k) hpx hpy (hrun w (a1.acell 24 rfl) (a1.blk.free 24)) (hK _ _ (h _ (K.setBeat k)))
theorem kbm_row {P : Program} {ops : Array Oper} {Q : Exit → Act → World → Prop} {a : Act} {w w0 w8 : World} {rest : List Oper} {o : Oper} {l : List (Nat × Array Value × TypeId)} {b : Nat} {cs : Array Value} {t : TypeId} {G : Nat → Prop} (K : Kb w0 l w) (M : Mv G w8 w) (hG : G b) (i : Nat) (e : l[i]? = some (b, cs, t)) (ty : TypeId) (x y : Operand) (cs' : Array Value) (ho : o.op = .store ty x y) (hg : o.guard = none) (hx : a.eval x = .pointer (some ⟨b, 0, none⟩)) (hy : a.eval y = .agg cs')
 (hi : (P.info? ty).map (·.size) = some cs'.size) (hs : cs.size = cs'.size) (h1 : cs'.all (·.oneCell') = true)
 (h : ∀ w', Kb w0 (l.set i (b, cs', t)) w' → Mv G w8 w' → wpList P ops Q rest (a.put o.dst undef) w') : wpList P ops Q (o :: rest) a w :=
 wpList_store_row hg ty x y ho b cs' hx hy t cs (K.at e) hi hs h1 (h _ (K.row e cs') (M.trans (Mv.setRow w b cs') (fun k _ hk => hk ▸ hG)))
theorem Left.mv {w w8 w9 : World} {t : TS} {u1 u2 u3 u4 tv fv : Value} {G : Nat → Prop} (h : Left w t u1 u2 u3 u4 tv fv w8) (M : Mv G w8 w9) (hb : Below w.heap.size w w9) (hn : ∀ k, (u1.ownBlock = some k ∨ u2.ownBlock = some k ∨ u3.ownBlock = some k ∨ u4.ownBlock = some k ∨ tv.ownBlock = some k ∨ fv.ownBlock = some k) → ¬ G k) : Left w t u1 u2 u3 u4 tv fv w9 :=
 ⟨⟨h.own.o1.fr M (fun k e => hn k (.inl e)), h.own.o2.fr M (fun k e => hn k (.inr (.inl e))), h.own.o3.fr M (fun k e => hn k (.inr (.inr (.inl e)))), h.own.o4.fr M (fun k e => hn k (.inr (.inr (.inr (.inl e))))), h.own.few⟩, h.told.fr M (fun k e => hn k (.inr (.inr (.inr (.inr (.inl e)))))), h.fl.fr M (fun k e => hn k (.inr (.inr (.inr (.inr (.inr e)))))), hb⟩
end
section
open Go.RowKit
attribute [local irreducible] wpQuiet wpList
theorem own_blk {α : Type} {enc : α → List Value} {size B : Nat} {w : World} {e : TypeId} {v : Value} {l : List α} (henc : ∀ x, (enc x).length = size) (h : Own w B e size enc v l) : (v = .slice none 0 0 ∧ l = []) ∨ ∃ g cap cur, v = .slice (some ⟨g, 0, none⟩) l.length cap ∧ B ≤ g ∧ Blk w g cur e ∧ l.length ≤ cap ∧ cap ≤ maxLen ∧ ∀ (j c : Nat) (x : α) (u : Value), l[j]? = some x → (enc x)[c]? = some u → cur[j * size + c]? = some u := by
 have h0 := h
 rcases h.2 with ⟨h1, h2⟩ | ⟨g, cap, cur, rfl, h2, h3, h4, h5, h6, h7⟩
 ·
  exact .inl ⟨h1, List.eq_nil_of_length_eq_zero h2⟩
 ·
  refine .inr ⟨g, cap, cur, rfl, h2, h3, h4, h5, fun j c x u hx hu => ?_⟩
  have hc : c < size := by rw [← henc x]; exact (List.getElem?_eq_some_iff.1 hu).1
  have q := Own.at henc h0 j c x hx hc
  rw [hu, Blk.cell (show Blk w g cur e from h3)] at q
  exact q
structure Lx (w : World) (B : Nat) (u1 u2 : Value) (rl : List Int) (tl : List Vc) (lx : List (Nat × Array Value × TypeId)) : Prop where
 all : ∀ x ∈ lx, Blk w x.1 x.2.1 x.2.2 ∧ B ≤ x.1
 nd : (lx.map (·.1)).Nodup
 r : ∀ (j : Nat) (r : Int), rl[j]? = some r → ∃ g cap A, u1 = .slice (some ⟨g, 0, none⟩) rl.length cap ∧ rl.length ≤ cap ∧ cap ≤ maxLen ∧ (g, A, 3) ∈ lx ∧ A[j]? = some (.int .i64 r)
 t : ∀ (j : Nat) (v : Vc), tl[j]? = some v → ∃ g cap A, u2 = .slice (some ⟨g, 0, none⟩) tl.length cap ∧ tl.length ≤ cap ∧ cap ≤ maxLen ∧ (g, A, 71) ∈ lx ∧ ∀ (c : Nat) (u : Value), (vcA v).toList[c]? = some u → A[j * 4 + c]? = some u
theorem lx_of {w : World} {B : Nat} {u1 u2 : Value} {rl : List Int} {tl : List Vc} (h1 : Own w B 3 1 inC u1 rl) (h2 : Own w B 71 4 vcC u2 tl) : ∃ lx, Lx w B u1 u2 rl tl lx := by
 rcases own_blk (enc := inC) (size := 1) (fun _ => rfl) h1 with ⟨-, rfl⟩ | ⟨g1, c1, A1, e1, a1, b1, d1, f1, k1⟩
 ·
  rcases own_blk (enc := vcC) (size := 4) (fun _ => rfl) h2 with ⟨-, rfl⟩ | ⟨g2, c2, A2, e2, a2, b2, d2, f2, k2⟩
  ·
   exact ⟨[], fun _ h => (by cases h), List.nodup_nil, fun j r h => (by cases h), fun j v h => (by cases h)⟩
  ·
   exact ⟨[(g2, A2, 71)], fun x hx => by rw [List.mem_singleton.1 hx]; exact ⟨b2, a2⟩, by simp, fun j r h => (by cases h), fun j v h => ⟨g2, c2, A2, e2, d2, f2, List.mem_singleton.2 rfl, fun c u hu => k2 j c v u h hu⟩⟩
 ·
  rcases own_blk (enc := vcC) (size := 4) (fun _ => rfl) h2 with ⟨-, rfl⟩ | ⟨g2, c2, A2, e2, a2, b2, d2, f2, k2⟩
  ·
   exact ⟨[(g1, A1, 3)], fun x hx => by rw [List.mem_singleton.1 hx]; exact ⟨b1, a1⟩, by simp, fun j r h => ⟨g1, c1, A1, e1, d1, f1, List.mem_singleton.2 rfl, by have q := k1 j 0 r (.int .i64 r) h rfl; rw [Nat.mul_one] at q; exact q⟩, fun j v h => (by cases h)⟩
  ·
   have hne : g1 ≠ g2 := fun e => by
    subst e
    have q := b1.symm.trans b2
    injection q with q
    injection q with q1 q2 q3
    cases q2
   refine ⟨[(g1, A1, 3), (g2, A2, 71)], fun x hx => ?_, by simp [hne], fun j r h => ⟨g1, c1, A1, e1, d1, f1, by simp, by have q := k1 j 0 r (.int .i64 r) h rfl; rw [Nat.mul_one] at q; exact q⟩, fun j v h => ⟨g2, c2, A2, e2, d2, f2, by simp, fun c u hu => k2 j c v u h hu⟩⟩
   rcases List.mem_cons.1 hx with rfl | hx
   ·
    exact ⟨b1, a1⟩
   ·
    rw [List.mem_singleton.1 hx]; exact ⟨b2, a2⟩
theorem Ta.addL {R : Tr} {w w' : World} {l lx : List (Nat × Array Value × TypeId)} {t : TS} (h : Ta R l t w) (hb : Below w.heap.size w w') (ha : ∀ x ∈ lx, Blk w' x.1 x.2.1 x.2.2 ∧ w.heap.size ≤ x.1) (hn : (lx.map (·.1)).Nodup) : Ta R (l ++ lx) t w' := by
 refine h.step (G := fun _ => False) (Mv.of_below hb) (fun _ _ e => e.elim) (fun x hx => ?_) (fun x hx => ?_) ?_
 ·
  rcases List.mem_append.1 hx with hx | hx
  ·
   exact (h.all x hx).below hb (h.all x hx).lt
  ·
   exact (ha x hx).1
 ·
  rcases List.mem_append.1 hx with hx | hx
  ·
   exact .inl (List.mem_map.2 ⟨x, hx, rfl⟩)
  ·
   exact .inr (ha x hx).2
 ·
  rw [List.map_append, List.nodup_append]
  refine ⟨h.nd, hn, fun x hx y hy e => ?_⟩
  obtain ⟨z, hz, rfl⟩ := List.mem_map.1 hx
  obtain ⟨z2, hz2, rfl⟩ := List.mem_map.1 hy
  have := (h.all z hz).lt
  have := (ha z2 hz2).2
  omega
theorem mark0_if {w : World} {b : Nat} {s0 s1 : Value} {l0 l1 : List Int} (ip : Nat) (bv : Bool) (h : Mk w b s0 s1 l0 l1) (hl : l0.length ≤ 1000) : Calls Tryd.prog 57 #[.pointer (some ⟨b, 0, none⟩), .int .i64 0, .int .i64 (ip : Nat), .bool bv] w fun e w' => e = .returned (.tuple #[]) ∧ DoneM w b s0 s1 (if bv = true then l0 ++ [(ip : Int)] else l0) l1 w' := by
 cases bv with
 | false => exact mark0_no ip h
 | true => exact mark0_yes ip h hl
theorem mark1_if {w : World} {b : Nat} {s0 s1 : Value} {l0 l1 : List Int} (ip : Nat) (bv : Bool) (h : Mk w b s0 s1 l0 l1) (hl : l1.length ≤ 1000) : Calls Tryd.prog 57 #[.pointer (some ⟨b, 0, none⟩), .int .i64 1, .int .i64 (ip : Nat), .bool bv] w fun e w' => e = .returned (.tuple #[]) ∧ DoneM w b s0 s1 l0 (if bv = true then l1 ++ [(ip : Int)] else l1) w' := by
 cases bv with
 | false => exact mark1_no ip h
 | true => exact mark1_yes ip h hl
theorem markTo_if {p : Nat → Po → Bool} {l : List Po} {k : Nat} {x : Po} (h : l[k]? = some x) : castI (markTo p l (k + 1)) = if p k x = true then castI (markTo p l k) ++ [(k : Int)] else castI (markTo p l k) := by
 cases c : p k x with
 | true => rw [if_pos rfl]; exact markTo_yes h c
 | false => rw [if_neg (by decide)]; exact markTo_no h c
theorem castI_len (p : Nat → Po → Bool) (l : List Po) (k : Nat) : (castI (markTo p l k)).length ≤ k := by
 unfold castI
 rw [List.length_map]
 exact (markTo_lt k).2
theorem rolesOf_len (t : TS) : (rolesOf t).length = t.s.po.length := by
 have h : (rolesK (selfN t) (rootN (selfN t) (bestOf t)) (costN (selfN t) (bestOf t)) (rpsOf t) t.s.po.length).length = t.s.po.length := tk_len _ (by unfold rpsOf; rw [rpTo_len _ (Nat.le_refl _)]; exact Nat.le_refl _)
 unfold rolesOf rolesE
 split
 ·
  rw [List.length_set]; exact h
 ·
  exact h
theorem tellsOf_len (t : TS) : (tellsOf t).length = t.s.po.length := tk_len _ (by unfold rpsOf; rw [rpTo_len _ (Nat.le_refl _)]; exact Nat.le_refl _)
theorem rpTo_mem {l : List Po} : ∀ k, ∀ z ∈ rpTo l k, ∃ (j : Nat) (x : Po), l[j]? = some x ∧ z = rpN x j
 | 0, z, h => (by cases h)
 | k + 1, z, h => by
  cases c : l[k]? with
  | none =>
   rw [show rpTo l (k + 1) = rpTo l k from by show (match l[k]? with | some x => rpTo l k ++ [rpN x k] | none => rpTo l k) = _; rw [c]] at h
   exact rpTo_mem k z h
  | some x =>
   rw [rpTo_step c] at h
   rcases List.mem_append.1 h with h | h
   ·
    exact rpTo_mem k z h
   ·
    exact ⟨k, x, c, List.mem_singleton.1 h⟩
theorem rpN_ok {x : Po} (h : okP x) (k : Nat) : (rpN x k).ok := by
 obtain ⟨⟨a1, a2⟩, ⟨b1, b2⟩, ⟨c1, c2⟩, ⟨d1, d2⟩, ⟨e1, e2⟩⟩ := h
 have i := idP_is x ((k : Int) + 1)
 refine ⟨⟨?_, ?_, ?_, ?_⟩, ?_, ?_⟩
 ·
  show x.p13.toNat < _; omega
 ·
  show x.p14.toNat < _; omega
 ·
  show x.p15.toNat < _; omega
 ·
  show x.p16.toNat < _; omega
 ·
  show x.p3.toNat < _; omega
 ·
  show (idP x ((k : Int) + 1)).toNat < _; omega
theorem okP_poU {x : Po} (h : okP x) : x = poU x (vecN x) := by
 obtain ⟨⟨a, -⟩, ⟨b, -⟩, ⟨c, -⟩, ⟨d, -⟩, -⟩ := h
 cases x
 simp only [poU, vecN] at *
 simp only [Int.toNat_of_nonneg a, Int.toNat_of_nonneg b, Int.toNat_of_nonneg c, Int.toNat_of_nonneg d]
theorem at_last {α : Type} (l : List α) (x : α) : (l ++ [x])[l.length]? = some x := by simp
theorem set_last {α : Type} (l : List α) (x y : α) : (l ++ [x]).set l.length y = l ++ [y] := by simp
theorem one_ch {R C : Nat} {P : Int} {u1 u2 : Value} (h1 : u1.oneCell' = true) (h2 : u2.oneCell' = true) : (chA R C P u1 u2).all (·.oneCell') = true := by
 unfold chA
 rw [Array.all_eq_true]
 intro i hi
 match i, hi with
 | 0, _ => rfl
 | 1, _ => rfl
 | 2, _ => rfl
 | 3, _ => exact h1
 | 4, _ => exact h2
end
section
open Go.RowKit
attribute [local irreducible] wpQuiet wpList
theorem wpList_made4 {P : Program} {ops : Array Oper} {Q : Exit → Act → World → Prop} {a : Act} {w w' : World} {rest : List Oper} {o : Oper} (v : Value) (hw : Region.wanted o (yielded ops a.tmps) = true)
 (hrun : (execOp a.eval o).run P w = .ok (.value v) w') (h : wpList P ops Q rest (a.put o.dst v) w') : wpList P ops Q (o :: rest) a w :=
 BigFrame.wpList_want hw fun K hK => by unfold Oper.wp; simp only [hrun]; exact hK _ _ h
theorem wpList_callx4 {P : Program} {ops : Array Oper} {Q : Exit → Act → World → Prop} {a : Act} {w : World} {rest : List Oper} {o : Oper} (f : FuncId) (args : Array Value) (R : Value → World → Prop) (hw : Region.wanted o (yielded ops a.tmps) = true)
 (hv : (execOp a.eval o).run P w = .ok (.enter f args) w) (hc : Calls P f args w fun e w' => ∃ v, e = .returned v ∧ R v w') (h : ∀ v w', R v w' → wpList P ops Q rest (a.put o.dst v) w') : wpList P ops Q (o :: rest) a w :=
 BigFrame.wpList_want hw fun K hK => by
  unfold Oper.wp
  simp only [hv, Oper.upon]
  exact hc.mono fun e w' ⟨v, he, hr⟩ => by subst he; exact hK _ _ (h v w' hr)
def st1P (x : Po) : Go.Proofs.YteeinlbhcdpnnaaDoor.St := ⟨⟨0, 0, 0, 0, 0, 0⟩, [x], [], [], [], fun _ => 0, 0⟩
theorem built_s1 (x : Po) (a : Option Addr) (n m : Nat) : Tryd.prog.built 40 [(1, .slice a n m)] = some (stA (st1P x) (.slice a n m) (.slice none 0 0) (.slice none 0 0) (.slice none 0 0)) := by kernel_rfl
theorem one_el {w : World} {B : Nat} {x : Po} {v : Value} (h : Own w B 73 21 poC v [x]) : ∃ q m, v = .slice (some ⟨q, 0, none⟩) 1 m ∧ 1 ≤ m ∧ m ≤ maxLen ∧ w.rangeAt q 0 (poC x) := by
 rcases h.cases with ⟨-, h2⟩ | ⟨q, m, rfl, -, hq, hm, hx⟩
 ·
  cases h2
 ·
  refine ⟨q, m, rfl, hm, hx, fun j u hj => ?_⟩
  have hl : j < (poC x).length := (List.getElem?_eq_some_iff.1 hj).1
  have := Own.at (enc := poC) po_len h 0 j x rfl (by rw [← po_len x]; exact hl)
  simp only [Nat.zero_mul, Nat.zero_add] at this ⊢
  rw [this]
  exact hj
set_option maxRecDepth 100000 in
set_option maxHeartbeats 8000000 in
theorem icold_any (x : Po) (w : World) : Calls Tryd.prog 55 #[poV x] w fun e w' => e = .returned (poV (coldP x)) ∧ Below w.heap.size w w' := by
 have K := Lib.hid (Kb.nil w)
 go_enter Tryd.func55, Tryd.ntmps55
 go_upto_region 0 with fail
 refine wp_region_lit ?_
 refine kb_box K.out 73 (.tmp 0) (poA x) rfl rfl (by rfl) (pz (h := ?_))
 intro b1 w1 K1
 refine kb_alloc K1.out 73 (nil21) rfl z50 (by rfl) (pz (h := ?_))
 intro b2 w2 K2
 refine wpList_nil ?_
 go_upto_region 1 with fail
 refine lz (wz1 (.agg (poA x)) (h1 := by exact kb_all K2.out 0 rfl 73 _ rfl rfl Tryd.underlying73 rfl (size50)) (h := ?_))
 refine wpList_made4 (.slice (some ⟨w2.heap.size, 0, none⟩) 1 1) (by rfl) (run_bs1 32 (.tmp 3) rfl (poV x) _ rfl (one_po x w2)) ?_
 (try simp only [Act.put, gA, gS, gZ, sA, sZ, sS])
 obtain ⟨g, hg⟩ : ∃ g, g = w2.heap.size := ⟨_, rfl⟩
 have OO : OwS (w2.alloc (.cells (poA x) 73)) 0 (st1P x) (.slice (some ⟨g, 0, none⟩) 1 1) (.slice none 0 0) (.slice none 0 0) (.slice none 0 0) := ⟨by have h := Own.lit (e := 73) (base := 0) w2 (Nat.zero_le _) po_len [x] (by show 1 ≤ maxLen; decide); rw [← hg] at h; exact h, Own.nil _ _ _ _ _, Own.nil _ _ _ _ _, Own.nil _ _ _ _ _, by unfold st1P; simp⟩
 have K3 := Lib.hid (K2.out.next ((Below.refl _ _).alloc (Nat.le_refl _) (.cells (poA x) 73)))
 rw [← hg]
 generalize w2.alloc (.cells (poA x) 73) = w3 at OO K3 ⊢
 refine wz1 (stV (st1P x) (.slice (some ⟨g, 0, none⟩) 1 1) (.slice none 0 0) (.slice none 0 0) (.slice none 0 0)) (h1 := by exact run_build_of 40 [(1, .tmp 4)] rfl _ _ rfl (built_s1 x _ _ _)) (h := ?_)
 refine wpList_callx4 71 #[stV (st1P x) (.slice (some ⟨g, 0, none⟩) 1 1) (.slice none 0 0) (.slice none 0 0) (.slice none 0 0)] (fun v w' => ∃ u1 u2 u3, v = stV (coldS (st1P x)) u1 u2 u3 (.slice none 0 0) ∧ Own w' w3.heap.size 73 21 poC u1 [coldP x] ∧ Below w3.heap.size w3 w') (by rfl) (by go_simp) ((cold_st OO).mono fun e w' ⟨u1, u2, u3, q1, q2, q3⟩ => ⟨_, q1, u1, u2, u3, rfl, q2.o1, q3⟩) ?_
 rintro v w4 ⟨u1, u2, u3, rfl, oo, hb⟩
 (try simp only [Act.put, gA, gS, gZ, sA, sZ, sS])
 obtain ⟨q, m, rfl, hqm, hmx, hr⟩ := one_el oo
 have K4 := Lib.hid (K3.out.next hb)
 refine wz3 (.slice (some ⟨q, 0, none⟩) 1 m) (pT q 0) (poV (coldP x)) (h1 := by go_simp; try rfl) (h3 := by exact run_loadRange 73 _ rfl q 0 rfl (poA (coldP x)) _ hr Tryd.underlying73 rfl (po_info _)) (h := ?_)
 refine kb_row K4.out 1 rfl 73 _ _ (poA (coldP x)) rfl rfl rfl rfl (po_info _) (by rfl) (po_all _) (py (h := ?_))
 intro w5 K5
 refine wpList_nil ?_
 go_wp2_with fail
 refine bodyPost_ret (v := .agg (poA (coldP x))) (results_cell_row Tryd.results55 _ _ b2 73 (poA (coldP x)) (0, 0) _ rfl (K5.out.at (i := 1) rfl) Tryd.underlying73 rfl (po_info _)) rfl ?_
 exact ⟨rfl, K5.out.below⟩
def switchP (x : Po) (up ad : Bool) (dl : Int) : Po := if (up && ad) = true then (if onP x = true then { x with p6 := ad, p7 := up } else ⟨x.p0, x.p1, x.p2, x.p3, x.p4, x.p5, ad, up, true, false, 0, 0, 0, 0, 0, 0, 0, 0, 0, dl, 0⟩) else ⟨x.p0, x.p1, x.p2, x.p3, x.p4, x.p5, ad, up, false, false, 0, 0, 0, 0, 0, 0, 0, 0, 0, 0, 0⟩
theorem cold_of (x : Po) (q : Po) (h : coldP x = q) (w : World) : Calls Tryd.prog 55 #[poV x] w fun e w' => e = .returned (poV q) ∧ Below w.heap.size w w' := h ▸ icold_any x w
set_option maxRecDepth 100000 in
set_option maxHeartbeats 8000000 in
theorem switch_any (x : Po) (up ad : Bool) (c : Cf) (w : World) : Calls Tryd.prog 30 #[poV x, .bool up, .bool ad, cfV c] w fun e w' => e = .returned (poV (switchP x up ad c.p3)) ∧ Below w.heap.size w w' := by
 have CO := Lib.hid (fun b (h : onP x = b) w => on_is x b h w)
 cases hon : onP x
 case false =>
  cases up
  case false =>
   cases ad
   case false =>
    have hP : switchP x false false c.p3 = ⟨x.p0, x.p1, x.p2, x.p3, x.p4, x.p5, false, false, false, false, 0, 0, 0, 0, 0, 0, 0, 0, 0, 0, 0⟩ := by unfold switchP; simp [hon]
    rw [hP]
    clear hP
    rw [show poV x = .agg (poA x) from rfl]
    have K := Lib.hid (Kb.nil w)
    go_enter Tryd.func30, Tryd.ntmps30
    go_upto_region 0 with fail
    refine wp_region_lit ?_
    refine kb_box K.out 73 (.tmp 0) (poA x) rfl rfl (by rfl) (pz (h := ?_))
    intro b1 w1 K1
    refine kb_box K1.out 31 (.tmp 3) (cfA c) rfl rfl (by rfl) (pz (h := ?_))
    intro b2 w2 K2
    refine kb_alloc K2.out 73 (nil21) rfl z50 (by rfl) (pz (h := ?_))
    intro b3 w3 K3
    refine wpList_nil ?_
    go_upto_region 1 with fail
    refine lz (wz1 (.agg (poA x)) (h1 := by exact kb_all K3.out 0 rfl 73 _ rfl rfl Tryd.underlying73 rfl (size50)) (h := ?_))
    refine kb_call K3.out 20 #[.agg (poA x)] (.bool false) (by rfl) (by go_simp) (CO.out false hon w3) (py (h := ?_))
    intro w4 K4
    refine wz1 (.bool false) (h := nz ?_)
    go_upto_region 2 with fail
    refine lz (wz3 (.bool false) (.bool false) (pT b1 7) (h := ?_))
    refine kb_set K4.out 0 rfl 4 _ _ 7 (.bool false) rfl (by rfl) rfl rfl (kb_run_set K4.out (i := 0) rfl 4 7 (.bool x.p7) (.bool false) (by rfl) (fun W h1 h2 => by go_simp)) (poA { x with p7 := false }) (by kernel_rfl) (py (h := ?_))
    intro w5 K5
    refine wz1 (pT b1 6) (h := ?_)
    refine kb_set K5.out 0 rfl 4 _ _ 6 (.bool false) rfl (by rfl) rfl rfl (kb_run_set K5.out (i := 0) rfl 4 6 (.bool x.p6) (.bool false) (by rfl) (fun W h1 h2 => by go_simp)) (poA { x with p6 := false, p7 := false }) (by kernel_rfl) (py (h := ?_))
    intro w6 K6
    refine wpList_nil ?_
    go_upto_region 3 with fail
    refine lz (wz1 (.agg (poA { x with p6 := false, p7 := false })) (h1 := by exact kb_all K6.out 0 rfl 73 _ rfl rfl Tryd.underlying73 rfl (size50)) (h := ?_))
    refine kb_call K6.out 20 #[.agg (poA { x with p6 := false, p7 := false })] (.bool false) (by rfl) (by go_simp) (on_is { x with p6 := false, p7 := false } false rfl w6) (py (h := ?_))
    intro w7 K7
    refine wz2 (.bool true) (.bool true) (h := nz ?_)
    go_upto_region 4 with fail
    refine lz (wz1 (.agg (poA { x with p6 := false, p7 := false })) (h1 := by exact kb_all K7.out 0 rfl 73 _ rfl rfl Tryd.underlying73 rfl (size50)) (h := ?_))
    refine kb_call K7.out 55 #[.agg (poA { x with p6 := false, p7 := false })] (.agg (poA ⟨x.p0, x.p1, x.p2, x.p3, x.p4, x.p5, false, false, false, false, 0, 0, 0, 0, 0, 0, 0, 0, 0, 0, 0⟩)) (by rfl) (by go_simp) (cold_of { x with p6 := false, p7 := false } ⟨x.p0, x.p1, x.p2, x.p3, x.p4, x.p5, false, false, false, false, 0, 0, 0, 0, 0, 0, 0, 0, 0, 0, 0⟩ rfl w7) (py (h := ?_))
    intro w8 K8
    refine kb_row K8.out 2 rfl 73 _ _ (poA ⟨x.p0, x.p1, x.p2, x.p3, x.p4, x.p5, false, false, false, false, 0, 0, 0, 0, 0, 0, 0, 0, 0, 0, 0⟩) rfl rfl rfl rfl (size50) (by rfl) (po_all _) (py (h := ?_))
    intro w9 K9
    refine wpList_nil ?_
    go_wp2_with fail
    refine bodyPost_ret (v := .agg (poA ⟨x.p0, x.p1, x.p2, x.p3, x.p4, x.p5, false, false, false, false, 0, 0, 0, 0, 0, 0, 0, 0, 0, 0, 0⟩)) (results_cell_row Tryd.results30 _ _ b3 73 (poA ⟨x.p0, x.p1, x.p2, x.p3, x.p4, x.p5, false, false, false, false, 0, 0, 0, 0, 0, 0, 0, 0, 0, 0, 0⟩) (0, 0) _ rfl (K9.out.at (i := 2) rfl) Tryd.underlying73 rfl (po_info _)) rfl ?_
    exact ⟨rfl, K9.out.below⟩
   case true =>
    have hP : switchP x false true c.p3 = ⟨x.p0, x.p1, x.p2, x.p3, x.p4, x.p5, true, false, false, false, 0, 0, 0, 0, 0, 0, 0, 0, 0, 0, 0⟩ := by unfold switchP; simp [hon]
    rw [hP]
    clear hP
    rw [show poV x = .agg (poA x) from rfl]
    have K := Lib.hid (Kb.nil w)
    go_enter Tryd.func30, Tryd.ntmps30
    go_upto_region 0 with fail
    refine wp_region_lit ?_
    refine kb_box K.out 73 (.tmp 0) (poA x) rfl rfl (by rfl) (pz (h := ?_))
    intro b1 w1 K1
    refine kb_box K1.out 31 (.tmp 3) (cfA c) rfl rfl (by rfl) (pz (h := ?_))
    intro b2 w2 K2
    refine kb_alloc K2.out 73 (nil21) rfl z50 (by rfl) (pz (h := ?_))
    intro b3 w3 K3
    refine wpList_nil ?_
    go_upto_region 1 with fail
    refine lz (wz1 (.agg (poA x)) (h1 := by exact kb_all K3.out 0 rfl 73 _ rfl rfl Tryd.underlying73 rfl (size50)) (h := ?_))
    refine kb_call K3.out 20 #[.agg (poA x)] (.bool false) (by rfl) (by go_simp) (CO.out false hon w3) (py (h := ?_))
    intro w4 K4
    refine wz1 (.bool false) (h := nz ?_)
    go_upto_region 2 with fail
    refine lz (wz3 (.bool false) (.bool true) (pT b1 7) (h := ?_))
    refine kb_set K4.out 0 rfl 4 _ _ 7 (.bool false) rfl (by rfl) rfl rfl (kb_run_set K4.out (i := 0) rfl 4 7 (.bool x.p7) (.bool false) (by rfl) (fun W h1 h2 => by go_simp)) (poA { x with p7 := false }) (by kernel_rfl) (py (h := ?_))
    intro w5 K5
    refine wz1 (pT b1 6) (h := ?_)
    refine kb_set K5.out 0 rfl 4 _ _ 6 (.bool true) rfl (by rfl) rfl rfl (kb_run_set K5.out (i := 0) rfl 4 6 (.bool x.p6) (.bool true) (by rfl) (fun W h1 h2 => by go_simp)) (poA { x with p6 := true, p7 := false }) (by kernel_rfl) (py (h := ?_))
    intro w6 K6
    refine wpList_nil ?_
    go_upto_region 3 with fail
    refine lz (wz1 (.agg (poA { x with p6 := true, p7 := false })) (h1 := by exact kb_all K6.out 0 rfl 73 _ rfl rfl Tryd.underlying73 rfl (size50)) (h := ?_))
    refine kb_call K6.out 20 #[.agg (poA { x with p6 := true, p7 := false })] (.bool false) (by rfl) (by go_simp) (on_is { x with p6 := true, p7 := false } false rfl w6) (py (h := ?_))
    intro w7 K7
    refine wz2 (.bool true) (.bool true) (h := nz ?_)
    go_upto_region 4 with fail
    refine lz (wz1 (.agg (poA { x with p6 := true, p7 := false })) (h1 := by exact kb_all K7.out 0 rfl 73 _ rfl rfl Tryd.underlying73 rfl (size50)) (h := ?_))
    refine kb_call K7.out 55 #[.agg (poA { x with p6 := true, p7 := false })] (.agg (poA ⟨x.p0, x.p1, x.p2, x.p3, x.p4, x.p5, true, false, false, false, 0, 0, 0, 0, 0, 0, 0, 0, 0, 0, 0⟩)) (by rfl) (by go_simp) (cold_of { x with p6 := true, p7 := false } ⟨x.p0, x.p1, x.p2, x.p3, x.p4, x.p5, true, false, false, false, 0, 0, 0, 0, 0, 0, 0, 0, 0, 0, 0⟩ rfl w7) (py (h := ?_))
    intro w8 K8
    refine kb_row K8.out 2 rfl 73 _ _ (poA ⟨x.p0, x.p1, x.p2, x.p3, x.p4, x.p5, true, false, false, false, 0, 0, 0, 0, 0, 0, 0, 0, 0, 0, 0⟩) rfl rfl rfl rfl (size50) (by rfl) (po_all _) (py (h := ?_))
    intro w9 K9
    refine wpList_nil ?_
    go_wp2_with fail
    refine bodyPost_ret (v := .agg (poA ⟨x.p0, x.p1, x.p2, x.p3, x.p4, x.p5, true, false, false, false, 0, 0, 0, 0, 0, 0, 0, 0, 0, 0, 0⟩)) (results_cell_row Tryd.results30 _ _ b3 73 (poA ⟨x.p0, x.p1, x.p2, x.p3, x.p4, x.p5, true, false, false, false, 0, 0, 0, 0, 0, 0, 0, 0, 0, 0, 0⟩) (0, 0) _ rfl (K9.out.at (i := 2) rfl) Tryd.underlying73 rfl (po_info _)) rfl ?_
    exact ⟨rfl, K9.out.below⟩
  case true =>
   cases ad
   case false =>
    have hP : switchP x true false c.p3 = ⟨x.p0, x.p1, x.p2, x.p3, x.p4, x.p5, false, true, false, false, 0, 0, 0, 0, 0, 0, 0, 0, 0, 0, 0⟩ := by unfold switchP; simp [hon]
    rw [hP]
    clear hP
    rw [show poV x = .agg (poA x) from rfl]
    have K := Lib.hid (Kb.nil w)
    go_enter Tryd.func30, Tryd.ntmps30
    go_upto_region 0 with fail
    refine wp_region_lit ?_
    refine kb_box K.out 73 (.tmp 0) (poA x) rfl rfl (by rfl) (pz (h := ?_))
    intro b1 w1 K1
    refine kb_box K1.out 31 (.tmp 3) (cfA c) rfl rfl (by rfl) (pz (h := ?_))
    intro b2 w2 K2
    refine kb_alloc K2.out 73 (nil21) rfl z50 (by rfl) (pz (h := ?_))
    intro b3 w3 K3
    refine wpList_nil ?_
    go_upto_region 1 with fail
    refine lz (wz1 (.agg (poA x)) (h1 := by exact kb_all K3.out 0 rfl 73 _ rfl rfl Tryd.underlying73 rfl (size50)) (h := ?_))
    refine kb_call K3.out 20 #[.agg (poA x)] (.bool false) (by rfl) (by go_simp) (CO.out false hon w3) (py (h := ?_))
    intro w4 K4
    refine wz1 (.bool false) (h := nz ?_)
    go_upto_region 2 with fail
    refine lz (wz3 (.bool true) (.bool false) (pT b1 7) (h := ?_))
    refine kb_set K4.out 0 rfl 4 _ _ 7 (.bool true) rfl (by rfl) rfl rfl (kb_run_set K4.out (i := 0) rfl 4 7 (.bool x.p7) (.bool true) (by rfl) (fun W h1 h2 => by go_simp)) (poA { x with p7 := true }) (by kernel_rfl) (py (h := ?_))
    intro w5 K5
    refine wz1 (pT b1 6) (h := ?_)
    refine kb_set K5.out 0 rfl 4 _ _ 6 (.bool false) rfl (by rfl) rfl rfl (kb_run_set K5.out (i := 0) rfl 4 6 (.bool x.p6) (.bool false) (by rfl) (fun W h1 h2 => by go_simp)) (poA { x with p6 := false, p7 := true }) (by kernel_rfl) (py (h := ?_))
    intro w6 K6
    refine wpList_nil ?_
    go_upto_region 3 with fail
    refine lz (wz1 (.agg (poA { x with p6 := false, p7 := true })) (h1 := by exact kb_all K6.out 0 rfl 73 _ rfl rfl Tryd.underlying73 rfl (size50)) (h := ?_))
    refine kb_call K6.out 20 #[.agg (poA { x with p6 := false, p7 := true })] (.bool false) (by rfl) (by go_simp) (on_is { x with p6 := false, p7 := true } false rfl w6) (py (h := ?_))
    intro w7 K7
    refine wz2 (.bool true) (.bool true) (h := nz ?_)
    go_upto_region 4 with fail
    refine lz (wz1 (.agg (poA { x with p6 := false, p7 := true })) (h1 := by exact kb_all K7.out 0 rfl 73 _ rfl rfl Tryd.underlying73 rfl (size50)) (h := ?_))
    refine kb_call K7.out 55 #[.agg (poA { x with p6 := false, p7 := true })] (.agg (poA ⟨x.p0, x.p1, x.p2, x.p3, x.p4, x.p5, false, true, false, false, 0, 0, 0, 0, 0, 0, 0, 0, 0, 0, 0⟩)) (by rfl) (by go_simp) (cold_of { x with p6 := false, p7 := true } ⟨x.p0, x.p1, x.p2, x.p3, x.p4, x.p5, false, true, false, false, 0, 0, 0, 0, 0, 0, 0, 0, 0, 0, 0⟩ rfl w7) (py (h := ?_))
    intro w8 K8
    refine kb_row K8.out 2 rfl 73 _ _ (poA ⟨x.p0, x.p1, x.p2, x.p3, x.p4, x.p5, false, true, false, false, 0, 0, 0, 0, 0, 0, 0, 0, 0, 0, 0⟩) rfl rfl rfl rfl (size50) (by rfl) (po_all _) (py (h := ?_))
    intro w9 K9
    refine wpList_nil ?_
    go_wp2_with fail
    refine bodyPost_ret (v := .agg (poA ⟨x.p0, x.p1, x.p2, x.p3, x.p4, x.p5, false, true, false, false, 0, 0, 0, 0, 0, 0, 0, 0, 0, 0, 0⟩)) (results_cell_row Tryd.results30 _ _ b3 73 (poA ⟨x.p0, x.p1, x.p2, x.p3, x.p4, x.p5, false, true, false, false, 0, 0, 0, 0, 0, 0, 0, 0, 0, 0, 0⟩) (0, 0) _ rfl (K9.out.at (i := 2) rfl) Tryd.underlying73 rfl (po_info _)) rfl ?_
    exact ⟨rfl, K9.out.below⟩
   case true =>
    have hP : switchP x true true c.p3 = ⟨x.p0, x.p1, x.p2, x.p3, x.p4, x.p5, true, true, true, false, 0, 0, 0, 0, 0, 0, 0, 0, 0, c.p3, 0⟩ := by unfold switchP; simp [hon]
    rw [hP]
    clear hP
    rw [show poV x = .agg (poA x) from rfl]
    have K := Lib.hid (Kb.nil w)
    go_enter Tryd.func30, Tryd.ntmps30
    go_upto_region 0 with fail
    refine wp_region_lit ?_
    refine kb_box K.out 73 (.tmp 0) (poA x) rfl rfl (by rfl) (pz (h := ?_))
    intro b1 w1 K1
    refine kb_box K1.out 31 (.tmp 3) (cfA c) rfl rfl (by rfl) (pz (h := ?_))
    intro b2 w2 K2
    refine kb_alloc K2.out 73 (nil21) rfl z50 (by rfl) (pz (h := ?_))
    intro b3 w3 K3
    refine wpList_nil ?_
    go_upto_region 1 with fail
    refine lz (wz1 (.agg (poA x)) (h1 := by exact kb_all K3.out 0 rfl 73 _ rfl rfl Tryd.underlying73 rfl (size50)) (h := ?_))
    refine kb_call K3.out 20 #[.agg (poA x)] (.bool false) (by rfl) (by go_simp) (CO.out false hon w3) (py (h := ?_))
    intro w4 K4
    refine wz1 (.bool false) (h := nz ?_)
    go_upto_region 2 with fail
    refine lz (wz3 (.bool true) (.bool true) (pT b1 7) (h := ?_))
    refine kb_set K4.out 0 rfl 4 _ _ 7 (.bool true) rfl (by rfl) rfl rfl (kb_run_set K4.out (i := 0) rfl 4 7 (.bool x.p7) (.bool true) (by rfl) (fun W h1 h2 => by go_simp)) (poA { x with p7 := true }) (by kernel_rfl) (py (h := ?_))
    intro w5 K5
    refine wz1 (pT b1 6) (h := ?_)
    refine kb_set K5.out 0 rfl 4 _ _ 6 (.bool true) rfl (by rfl) rfl rfl (kb_run_set K5.out (i := 0) rfl 4 6 (.bool x.p6) (.bool true) (by rfl) (fun W h1 h2 => by go_simp)) (poA { x with p6 := true, p7 := true }) (by kernel_rfl) (py (h := ?_))
    intro w6 K6
    refine wpList_nil ?_
    go_upto_region 3 with fail
    refine lz (wz1 (.agg (poA { x with p6 := true, p7 := true })) (h1 := by exact kb_all K6.out 0 rfl 73 _ rfl rfl Tryd.underlying73 rfl (size50)) (h := ?_))
    refine kb_call K6.out 20 #[.agg (poA { x with p6 := true, p7 := true })] (.bool true) (by rfl) (by go_simp) (on_is { x with p6 := true, p7 := true } true rfl w6) (py (h := ?_))
    intro w7 K7
    refine wz2 (.bool false) (.bool false) (h := nz ?_)
    go_upto_region 5 with fail
    refine lz (wz2 (.bool false) (.bool false) (h := nz ?_))
    go_upto_region 7 with fail
    refine lz (wz1 (.agg (poA { x with p6 := true, p7 := true })) (h1 := by exact kb_all K7.out 0 rfl 73 _ rfl rfl Tryd.underlying73 rfl (size50)) (h := ?_))
    refine kb_call K7.out 55 #[.agg (poA { x with p6 := true, p7 := true })] (.agg (poA ⟨x.p0, x.p1, x.p2, x.p3, x.p4, x.p5, true, true, false, false, 0, 0, 0, 0, 0, 0, 0, 0, 0, 0, 0⟩)) (by rfl) (by go_simp) (cold_of { x with p6 := true, p7 := true } ⟨x.p0, x.p1, x.p2, x.p3, x.p4, x.p5, true, true, false, false, 0, 0, 0, 0, 0, 0, 0, 0, 0, 0, 0⟩ rfl w7) (py (h := ?_))
    intro w8 K8
    refine kb_row K8.out 0 rfl 73 _ _ (poA ⟨x.p0, x.p1, x.p2, x.p3, x.p4, x.p5, true, true, false, false, 0, 0, 0, 0, 0, 0, 0, 0, 0, 0, 0⟩) rfl rfl rfl rfl (size50) (by rfl) (po_all _) (py (h := ?_))
    intro w9 K9
    refine wpList_nil ?_
    go_upto_region 8 with fail
    refine wp_region_inv (I := fun L ac w' => ∃ (v27 v28 v29 v30 : Value), ac = { tmps := #[.agg (poA x), .bool true, .bool true, .agg (cfA c), .pointer (some ⟨b1, 0, none⟩), undef, undef, .pointer (some ⟨b2, 0, none⟩), .pointer (some ⟨b3, 0, none⟩), .bool false, .agg (poA x), .bool false, .bool true, .bool true, .pointer (some ⟨b1, 7, none⟩), .pointer (some ⟨b1, 6, none⟩), .bool false, .agg (poA { x with p6 := true, p7 := true }), .bool true, .bool false, undef, undef, .bool false, .bool false, undef, .agg (poA { x with p6 := true, p7 := true }), .agg (poA ⟨x.p0, x.p1, x.p2, x.p3, x.p4, x.p5, true, true, false, false, 0, 0, 0, 0, 0, 0, 0, 0, 0, 0, 0⟩), v27, v28, v29, v30, undef], defers := [] } ∧ (L 0 = true → v27 = .pointer (some ⟨b2, 3, none⟩)) ∧ (L 1 = true → v28 = .int .i64 c.p3) ∧ (L 2 = true → v29 = .pointer (some ⟨b1, 8, none⟩)) ∧ (L 4 = true → v30 = .pointer (some ⟨b1, 19, none⟩)) ∧ Kb w [(b1, poA ⟨x.p0, x.p1, x.p2, x.p3, x.p4, x.p5, true, true, (bif L 3 then true else false), false, 0, 0, 0, 0, 0, 0, 0, 0, 0, (bif L 5 then c.p3 else 0), 0⟩, 73), (b2, cfA c, 31), (b3, nil21, 73)] w') (by kernel_rfl) (by kernel_rfl) ⟨_, _, _, _, rfl, (fun h => Bool.noConfusion h), (fun h => Bool.noConfusion h), (fun h => Bool.noConfusion h), (fun h => Bool.noConfusion h), K9.out.drew⟩ ?_ ?_
    ·
     intro i hi Lx ac w' hI hL haft
     obtain ⟨v27, v28, v29, v30, rfl, e27, e28, e29, e30, hw⟩ := hI
     match i, hi with
     | 0, _ =>
      exact i_val rfl (.pointer (some ⟨b2, 3, none⟩)) w' (by rfl) (by go_simp) ⟨(.pointer (some ⟨b2, 3, none⟩)), v28, v29, v30, rfl, (fun _ => rfl), e28, e29, e30, hw⟩
     | 1, _ =>
      have e27x := e27 (haft 0 (by decide))
      subst e27x
      exact i_val rfl (.int .i64 c.p3) w' (by rfl) (by have q : w'.cell? ⟨b2, 3, none⟩ = some (.int .i64 c.p3) := Kb.cell (i := 1) hw rfl (by rfl); go_simp) ⟨(.pointer (some ⟨b2, 3, none⟩)), (.int .i64 c.p3), v29, v30, rfl, e27, (fun _ => rfl), e29, e30, hw⟩
     | 2, _ =>
      exact i_val rfl (.pointer (some ⟨b1, 8, none⟩)) w' (by rfl) (by go_simp) ⟨v27, v28, (.pointer (some ⟨b1, 8, none⟩)), v30, rfl, e27, e28, (fun _ => rfl), e30, hw⟩
     | 3, _ =>
      have e29x := e29 (haft 2 (by decide))
      subst e29x
      exact i_wp rfl (by rfl) (wp_store_cell 4 _ _ rfl ⟨b1, 8, none⟩ (.bool true) rfl rfl (kb_run_set hw (i := 0) rfl 4 8 (.bool (bif Lx 3 then true else false)) (.bool true) (by rfl) (fun W h1 h2 => by go_simp)) ⟨v27, v28, (.pointer (some ⟨b1, 8, none⟩)), v30, rfl, e27, e28, e29, e30, cast_blk (Kb.set (i := 0) hw rfl 8 (.bool true)) (by rfl)⟩)
     | 4, _ =>
      exact i_val rfl (.pointer (some ⟨b1, 19, none⟩)) w' (by rfl) (by go_simp) ⟨v27, v28, v29, (.pointer (some ⟨b1, 19, none⟩)), rfl, e27, e28, e29, (fun _ => rfl), hw⟩
     | 5, _ =>
      have e30x := e30 (haft 4 (by decide))
      subst e30x
      have e28x := e28 (haft 1 (by decide))
      subst e28x
      exact i_wp rfl (by rfl) (wp_store_cell 3 _ _ rfl ⟨b1, 19, none⟩ (.int .i64 c.p3) rfl rfl (kb_run_set hw (i := 0) rfl 3 19 (.int .i64 (bif Lx 5 then c.p3 else 0)) (.int .i64 c.p3) (by rfl) (fun W h1 h2 => by go_simp)) ⟨v27, (.int .i64 c.p3), v29, (.pointer (some ⟨b1, 19, none⟩)), rfl, e27, e28, e29, e30, cast_blk (Kb.set (i := 0) hw rfl 19 (.int .i64 c.p3)) (by rfl)⟩)
     | k + 6, h =>
      exfalso
      have h2 : k + 6 < 6 := h
      omega
    intro Lx ac w10 hI hall
    obtain ⟨v27, v28, v29, v30, rfl, e27, e28, e29, e30, hw⟩ := hI
    have e27y := e27 (hall 0 (by decide))
    subst e27y
    have e28y := e28 (hall 1 (by decide))
    subst e28y
    have e29y := e29 (hall 2 (by decide))
    subst e29y
    have e30y := e30 (hall 4 (by decide))
    subst e30y
    have hL3 := hall 3 (by decide)
    have hL5 := hall 5 (by decide)
    simp only [hL3, hL5, cond_true] at hw
    have K10 := Lib.hid hw
    clear hw hall hL3 hL5
    go_upto_region 9 with fail
    refine lz (wz1 (.agg (poA ⟨x.p0, x.p1, x.p2, x.p3, x.p4, x.p5, true, true, true, false, 0, 0, 0, 0, 0, 0, 0, 0, 0, c.p3, 0⟩)) (h1 := by exact kb_all K10.out 0 rfl 73 _ rfl rfl Tryd.underlying73 rfl (size50)) (h := ?_))
    refine kb_row K10.out 2 rfl 73 _ _ (poA ⟨x.p0, x.p1, x.p2, x.p3, x.p4, x.p5, true, true, true, false, 0, 0, 0, 0, 0, 0, 0, 0, 0, c.p3, 0⟩) rfl rfl rfl rfl (size50) (by rfl) (po_all _) (py (h := ?_))
    intro w11 K11
    refine wpList_nil ?_
    go_wp2_with fail
    refine bodyPost_ret (v := .agg (poA ⟨x.p0, x.p1, x.p2, x.p3, x.p4, x.p5, true, true, true, false, 0, 0, 0, 0, 0, 0, 0, 0, 0, c.p3, 0⟩)) (results_cell_row Tryd.results30 _ _ b3 73 (poA ⟨x.p0, x.p1, x.p2, x.p3, x.p4, x.p5, true, true, true, false, 0, 0, 0, 0, 0, 0, 0, 0, 0, c.p3, 0⟩) (0, 0) _ rfl (K11.out.at (i := 2) rfl) Tryd.underlying73 rfl (po_info _)) rfl ?_
    exact ⟨rfl, K11.out.below⟩
 case true =>
  cases up
  case false =>
   cases ad
   case false =>
    have hP : switchP x false false c.p3 = ⟨x.p0, x.p1, x.p2, x.p3, x.p4, x.p5, false, false, false, false, 0, 0, 0, 0, 0, 0, 0, 0, 0, 0, 0⟩ := by unfold switchP; simp [hon]
    rw [hP]
    clear hP
    rw [show poV x = .agg (poA x) from rfl]
    have K := Lib.hid (Kb.nil w)
    go_enter Tryd.func30, Tryd.ntmps30
    go_upto_region 0 with fail
    refine wp_region_lit ?_
    refine kb_box K.out 73 (.tmp 0) (poA x) rfl rfl (by rfl) (pz (h := ?_))
    intro b1 w1 K1
    refine kb_box K1.out 31 (.tmp 3) (cfA c) rfl rfl (by rfl) (pz (h := ?_))
    intro b2 w2 K2
    refine kb_alloc K2.out 73 (nil21) rfl z50 (by rfl) (pz (h := ?_))
    intro b3 w3 K3
    refine wpList_nil ?_
    go_upto_region 1 with fail
    refine lz (wz1 (.agg (poA x)) (h1 := by exact kb_all K3.out 0 rfl 73 _ rfl rfl Tryd.underlying73 rfl (size50)) (h := ?_))
    refine kb_call K3.out 20 #[.agg (poA x)] (.bool true) (by rfl) (by go_simp) (CO.out true hon w3) (py (h := ?_))
    intro w4 K4
    refine wz1 (.bool true) (h := nz ?_)
    go_upto_region 2 with fail
    refine lz (wz3 (.bool false) (.bool false) (pT b1 7) (h := ?_))
    refine kb_set K4.out 0 rfl 4 _ _ 7 (.bool false) rfl (by rfl) rfl rfl (kb_run_set K4.out (i := 0) rfl 4 7 (.bool x.p7) (.bool false) (by rfl) (fun W h1 h2 => by go_simp)) (poA { x with p7 := false }) (by kernel_rfl) (py (h := ?_))
    intro w5 K5
    refine wz1 (pT b1 6) (h := ?_)
    refine kb_set K5.out 0 rfl 4 _ _ 6 (.bool false) rfl (by rfl) rfl rfl (kb_run_set K5.out (i := 0) rfl 4 6 (.bool x.p6) (.bool false) (by rfl) (fun W h1 h2 => by go_simp)) (poA { x with p6 := false, p7 := false }) (by kernel_rfl) (py (h := ?_))
    intro w6 K6
    refine wpList_nil ?_
    go_upto_region 3 with fail
    refine lz (wz1 (.agg (poA { x with p6 := false, p7 := false })) (h1 := by exact kb_all K6.out 0 rfl 73 _ rfl rfl Tryd.underlying73 rfl (size50)) (h := ?_))
    refine kb_call K6.out 20 #[.agg (poA { x with p6 := false, p7 := false })] (.bool false) (by rfl) (by go_simp) (on_is { x with p6 := false, p7 := false } false rfl w6) (py (h := ?_))
    intro w7 K7
    refine wz2 (.bool true) (.bool true) (h := nz ?_)
    go_upto_region 4 with fail
    refine lz (wz1 (.agg (poA { x with p6 := false, p7 := false })) (h1 := by exact kb_all K7.out 0 rfl 73 _ rfl rfl Tryd.underlying73 rfl (size50)) (h := ?_))
    refine kb_call K7.out 55 #[.agg (poA { x with p6 := false, p7 := false })] (.agg (poA ⟨x.p0, x.p1, x.p2, x.p3, x.p4, x.p5, false, false, false, false, 0, 0, 0, 0, 0, 0, 0, 0, 0, 0, 0⟩)) (by rfl) (by go_simp) (cold_of { x with p6 := false, p7 := false } ⟨x.p0, x.p1, x.p2, x.p3, x.p4, x.p5, false, false, false, false, 0, 0, 0, 0, 0, 0, 0, 0, 0, 0, 0⟩ rfl w7) (py (h := ?_))
    intro w8 K8
    refine kb_row K8.out 2 rfl 73 _ _ (poA ⟨x.p0, x.p1, x.p2, x.p3, x.p4, x.p5, false, false, false, false, 0, 0, 0, 0, 0, 0, 0, 0, 0, 0, 0⟩) rfl rfl rfl rfl (size50) (by rfl) (po_all _) (py (h := ?_))
    intro w9 K9
    refine wpList_nil ?_
    go_wp2_with fail
    refine bodyPost_ret (v := .agg (poA ⟨x.p0, x.p1, x.p2, x.p3, x.p4, x.p5, false, false, false, false, 0, 0, 0, 0, 0, 0, 0, 0, 0, 0, 0⟩)) (results_cell_row Tryd.results30 _ _ b3 73 (poA ⟨x.p0, x.p1, x.p2, x.p3, x.p4, x.p5, false, false, false, false, 0, 0, 0, 0, 0, 0, 0, 0, 0, 0, 0⟩) (0, 0) _ rfl (K9.out.at (i := 2) rfl) Tryd.underlying73 rfl (po_info _)) rfl ?_
    exact ⟨rfl, K9.out.below⟩
   case true =>
    have hP : switchP x false true c.p3 = ⟨x.p0, x.p1, x.p2, x.p3, x.p4, x.p5, true, false, false, false, 0, 0, 0, 0, 0, 0, 0, 0, 0, 0, 0⟩ := by unfold switchP; simp [hon]
    rw [hP]
    clear hP
    rw [show poV x = .agg (poA x) from rfl]
    have K := Lib.hid (Kb.nil w)
    go_enter Tryd.func30, Tryd.ntmps30
    go_upto_region 0 with fail
    refine wp_region_lit ?_
    refine kb_box K.out 73 (.tmp 0) (poA x) rfl rfl (by rfl) (pz (h := ?_))
    intro b1 w1 K1
    refine kb_box K1.out 31 (.tmp 3) (cfA c) rfl rfl (by rfl) (pz (h := ?_))
    intro b2 w2 K2
    refine kb_alloc K2.out 73 (nil21) rfl z50 (by rfl) (pz (h := ?_))
    intro b3 w3 K3
    refine wpList_nil ?_
    go_upto_region 1 with fail
    refine lz (wz1 (.agg (poA x)) (h1 := by exact kb_all K3.out 0 rfl 73 _ rfl rfl Tryd.underlying73 rfl (size50)) (h := ?_))
    refine kb_call K3.out 20 #[.agg (poA x)] (.bool true) (by rfl) (by go_simp) (CO.out true hon w3) (py (h := ?_))
    intro w4 K4
    refine wz1 (.bool true) (h := nz ?_)
    go_upto_region 2 with fail
    refine lz (wz3 (.bool false) (.bool true) (pT b1 7) (h := ?_))
    refine kb_set K4.out 0 rfl 4 _ _ 7 (.bool false) rfl (by rfl) rfl rfl (kb_run_set K4.out (i := 0) rfl 4 7 (.bool x.p7) (.bool false) (by rfl) (fun W h1 h2 => by go_simp)) (poA { x with p7 := false }) (by kernel_rfl) (py (h := ?_))
    intro w5 K5
    refine wz1 (pT b1 6) (h := ?_)
    refine kb_set K5.out 0 rfl 4 _ _ 6 (.bool true) rfl (by rfl) rfl rfl (kb_run_set K5.out (i := 0) rfl 4 6 (.bool x.p6) (.bool true) (by rfl) (fun W h1 h2 => by go_simp)) (poA { x with p6 := true, p7 := false }) (by kernel_rfl) (py (h := ?_))
    intro w6 K6
    refine wpList_nil ?_
    go_upto_region 3 with fail
    refine lz (wz1 (.agg (poA { x with p6 := true, p7 := false })) (h1 := by exact kb_all K6.out 0 rfl 73 _ rfl rfl Tryd.underlying73 rfl (size50)) (h := ?_))
    refine kb_call K6.out 20 #[.agg (poA { x with p6 := true, p7 := false })] (.bool false) (by rfl) (by go_simp) (on_is { x with p6 := true, p7 := false } false rfl w6) (py (h := ?_))
    intro w7 K7
    refine wz2 (.bool true) (.bool true) (h := nz ?_)
    go_upto_region 4 with fail
    refine lz (wz1 (.agg (poA { x with p6 := true, p7 := false })) (h1 := by exact kb_all K7.out 0 rfl 73 _ rfl rfl Tryd.underlying73 rfl (size50)) (h := ?_))
    refine kb_call K7.out 55 #[.agg (poA { x with p6 := true, p7 := false })] (.agg (poA ⟨x.p0, x.p1, x.p2, x.p3, x.p4, x.p5, true, false, false, false, 0, 0, 0, 0, 0, 0, 0, 0, 0, 0, 0⟩)) (by rfl) (by go_simp) (cold_of { x with p6 := true, p7 := false } ⟨x.p0, x.p1, x.p2, x.p3, x.p4, x.p5, true, false, false, false, 0, 0, 0, 0, 0, 0, 0, 0, 0, 0, 0⟩ rfl w7) (py (h := ?_))
    intro w8 K8
    refine kb_row K8.out 2 rfl 73 _ _ (poA ⟨x.p0, x.p1, x.p2, x.p3, x.p4, x.p5, true, false, false, false, 0, 0, 0, 0, 0, 0, 0, 0, 0, 0, 0⟩) rfl rfl rfl rfl (size50) (by rfl) (po_all _) (py (h := ?_))
    intro w9 K9
    refine wpList_nil ?_
    go_wp2_with fail
    refine bodyPost_ret (v := .agg (poA ⟨x.p0, x.p1, x.p2, x.p3, x.p4, x.p5, true, false, false, false, 0, 0, 0, 0, 0, 0, 0, 0, 0, 0, 0⟩)) (results_cell_row Tryd.results30 _ _ b3 73 (poA ⟨x.p0, x.p1, x.p2, x.p3, x.p4, x.p5, true, false, false, false, 0, 0, 0, 0, 0, 0, 0, 0, 0, 0, 0⟩) (0, 0) _ rfl (K9.out.at (i := 2) rfl) Tryd.underlying73 rfl (po_info _)) rfl ?_
    exact ⟨rfl, K9.out.below⟩
  case true =>
   cases ad
   case false =>
    have hP : switchP x true false c.p3 = ⟨x.p0, x.p1, x.p2, x.p3, x.p4, x.p5, false, true, false, false, 0, 0, 0, 0, 0, 0, 0, 0, 0, 0, 0⟩ := by unfold switchP; simp [hon]
    rw [hP]
    clear hP
    rw [show poV x = .agg (poA x) from rfl]
    have K := Lib.hid (Kb.nil w)
    go_enter Tryd.func30, Tryd.ntmps30
    go_upto_region 0 with fail
    refine wp_region_lit ?_
    refine kb_box K.out 73 (.tmp 0) (poA x) rfl rfl (by rfl) (pz (h := ?_))
    intro b1 w1 K1
    refine kb_box K1.out 31 (.tmp 3) (cfA c) rfl rfl (by rfl) (pz (h := ?_))
    intro b2 w2 K2
    refine kb_alloc K2.out 73 (nil21) rfl z50 (by rfl) (pz (h := ?_))
    intro b3 w3 K3
    refine wpList_nil ?_
    go_upto_region 1 with fail
    refine lz (wz1 (.agg (poA x)) (h1 := by exact kb_all K3.out 0 rfl 73 _ rfl rfl Tryd.underlying73 rfl (size50)) (h := ?_))
    refine kb_call K3.out 20 #[.agg (poA x)] (.bool true) (by rfl) (by go_simp) (CO.out true hon w3) (py (h := ?_))
    intro w4 K4
    refine wz1 (.bool true) (h := nz ?_)
    go_upto_region 2 with fail
    refine lz (wz3 (.bool true) (.bool false) (pT b1 7) (h := ?_))
    refine kb_set K4.out 0 rfl 4 _ _ 7 (.bool true) rfl (by rfl) rfl rfl (kb_run_set K4.out (i := 0) rfl 4 7 (.bool x.p7) (.bool true) (by rfl) (fun W h1 h2 => by go_simp)) (poA { x with p7 := true }) (by kernel_rfl) (py (h := ?_))
    intro w5 K5
    refine wz1 (pT b1 6) (h := ?_)
    refine kb_set K5.out 0 rfl 4 _ _ 6 (.bool false) rfl (by rfl) rfl rfl (kb_run_set K5.out (i := 0) rfl 4 6 (.bool x.p6) (.bool false) (by rfl) (fun W h1 h2 => by go_simp)) (poA { x with p6 := false, p7 := true }) (by kernel_rfl) (py (h := ?_))
    intro w6 K6
    refine wpList_nil ?_
    go_upto_region 3 with fail
    refine lz (wz1 (.agg (poA { x with p6 := false, p7 := true })) (h1 := by exact kb_all K6.out 0 rfl 73 _ rfl rfl Tryd.underlying73 rfl (size50)) (h := ?_))
    refine kb_call K6.out 20 #[.agg (poA { x with p6 := false, p7 := true })] (.bool false) (by rfl) (by go_simp) (on_is { x with p6 := false, p7 := true } false rfl w6) (py (h := ?_))
    intro w7 K7
    refine wz2 (.bool true) (.bool true) (h := nz ?_)
    go_upto_region 4 with fail
    refine lz (wz1 (.agg (poA { x with p6 := false, p7 := true })) (h1 := by exact kb_all K7.out 0 rfl 73 _ rfl rfl Tryd.underlying73 rfl (size50)) (h := ?_))
    refine kb_call K7.out 55 #[.agg (poA { x with p6 := false, p7 := true })] (.agg (poA ⟨x.p0, x.p1, x.p2, x.p3, x.p4, x.p5, false, true, false, false, 0, 0, 0, 0, 0, 0, 0, 0, 0, 0, 0⟩)) (by rfl) (by go_simp) (cold_of { x with p6 := false, p7 := true } ⟨x.p0, x.p1, x.p2, x.p3, x.p4, x.p5, false, true, false, false, 0, 0, 0, 0, 0, 0, 0, 0, 0, 0, 0⟩ rfl w7) (py (h := ?_))
    intro w8 K8
    refine kb_row K8.out 2 rfl 73 _ _ (poA ⟨x.p0, x.p1, x.p2, x.p3, x.p4, x.p5, false, true, false, false, 0, 0, 0, 0, 0, 0, 0, 0, 0, 0, 0⟩) rfl rfl rfl rfl (size50) (by rfl) (po_all _) (py (h := ?_))
    intro w9 K9
    refine wpList_nil ?_
    go_wp2_with fail
    refine bodyPost_ret (v := .agg (poA ⟨x.p0, x.p1, x.p2, x.p3, x.p4, x.p5, false, true, false, false, 0, 0, 0, 0, 0, 0, 0, 0, 0, 0, 0⟩)) (results_cell_row Tryd.results30 _ _ b3 73 (poA ⟨x.p0, x.p1, x.p2, x.p3, x.p4, x.p5, false, true, false, false, 0, 0, 0, 0, 0, 0, 0, 0, 0, 0, 0⟩) (0, 0) _ rfl (K9.out.at (i := 2) rfl) Tryd.underlying73 rfl (po_info _)) rfl ?_
    exact ⟨rfl, K9.out.below⟩
   case true =>
    have hP : switchP x true true c.p3 = { x with p6 := true, p7 := true } := by unfold switchP; simp [hon]
    rw [hP]
    clear hP
    rw [show poV x = .agg (poA x) from rfl]
    have K := Lib.hid (Kb.nil w)
    go_enter Tryd.func30, Tryd.ntmps30
    go_upto_region 0 with fail
    refine wp_region_lit ?_
    refine kb_box K.out 73 (.tmp 0) (poA x) rfl rfl (by rfl) (pz (h := ?_))
    intro b1 w1 K1
    refine kb_box K1.out 31 (.tmp 3) (cfA c) rfl rfl (by rfl) (pz (h := ?_))
    intro b2 w2 K2
    refine kb_alloc K2.out 73 (nil21) rfl z50 (by rfl) (pz (h := ?_))
    intro b3 w3 K3
    refine wpList_nil ?_
    go_upto_region 1 with fail
    refine lz (wz1 (.agg (poA x)) (h1 := by exact kb_all K3.out 0 rfl 73 _ rfl rfl Tryd.underlying73 rfl (size50)) (h := ?_))
    refine kb_call K3.out 20 #[.agg (poA x)] (.bool true) (by rfl) (by go_simp) (CO.out true hon w3) (py (h := ?_))
    intro w4 K4
    refine wz1 (.bool true) (h := nz ?_)
    go_upto_region 2 with fail
    refine lz (wz3 (.bool true) (.bool true) (pT b1 7) (h := ?_))
    refine kb_set K4.out 0 rfl 4 _ _ 7 (.bool true) rfl (by rfl) rfl rfl (kb_run_set K4.out (i := 0) rfl 4 7 (.bool x.p7) (.bool true) (by rfl) (fun W h1 h2 => by go_simp)) (poA { x with p7 := true }) (by kernel_rfl) (py (h := ?_))
    intro w5 K5
    refine wz1 (pT b1 6) (h := ?_)
    refine kb_set K5.out 0 rfl 4 _ _ 6 (.bool true) rfl (by rfl) rfl rfl (kb_run_set K5.out (i := 0) rfl 4 6 (.bool x.p6) (.bool true) (by rfl) (fun W h1 h2 => by go_simp)) (poA { x with p6 := true, p7 := true }) (by kernel_rfl) (py (h := ?_))
    intro w6 K6
    refine wpList_nil ?_
    go_upto_region 3 with fail
    refine lz (wz1 (.agg (poA { x with p6 := true, p7 := true })) (h1 := by exact kb_all K6.out 0 rfl 73 _ rfl rfl Tryd.underlying73 rfl (size50)) (h := ?_))
    refine kb_call K6.out 20 #[.agg (poA { x with p6 := true, p7 := true })] (.bool true) (by rfl) (by go_simp) (on_is { x with p6 := true, p7 := true } true rfl w6) (py (h := ?_))
    intro w7 K7
    refine wz2 (.bool false) (.bool false) (h := nz ?_)
    go_upto_region 5 with fail
    refine lz (wz2 (.bool true) (.bool true) (h := nz ?_))
    go_upto_region 6 with fail
    refine lz (wz1 (.agg (poA { x with p6 := true, p7 := true })) (h1 := by exact kb_all K7.out 0 rfl 73 _ rfl rfl Tryd.underlying73 rfl (size50)) (h := ?_))
    refine kb_row K7.out 2 rfl 73 _ _ (poA { x with p6 := true, p7 := true }) rfl rfl rfl rfl (size50) (by rfl) (po_all _) (py (h := ?_))
    intro w8 K8
    refine wpList_nil ?_
    go_wp2_with fail
    refine bodyPost_ret (v := .agg (poA { x with p6 := true, p7 := true })) (results_cell_row Tryd.results30 _ _ b3 73 (poA { x with p6 := true, p7 := true }) (0, 0) _ rfl (K8.out.at (i := 2) rfl) Tryd.underlying73 rfl (po_info _)) rfl ?_
    exact ⟨rfl, K8.out.below⟩
end
end Go.Proofs.YteeinlbhcdpnnaaDoor
