import Derived.Test.YtccbdmccfbjmeaaDoorG9
set_option linter.unusedSimpArgs false
set_option linter.unusedVariables false
section
/- What is told of lists that are owned. -/
namespace Go.Proofs.YtccbdmccfbjmeaaDoor.Ev
open Go.RowKit

theorem own_fr {α : Type} {enc : α → List Value} {size base : Nat} {F : Nat → Prop} {w w' : World} {e : TypeId} {v : Value} {l : List α} (h : Own w base e size enc v l) (hf : Mv F w w') (hn : ∀ k, v.ownBlock = some k → ¬ F k) : Own w' base e size enc v l := by
  refine ⟨h.1, ?_⟩
  have hlt := h.lt
  rcases h.2 with hn2 | ⟨g, cap, cur, rfl, h2, h3, h4⟩
  · exact .inl hn2
  · exact .inr ⟨g, cap, cur, rfl, h2, (hf.block g (hlt g rfl).2 (hn g rfl)).trans h3, h4⟩
/-- A list that is owned. -/
def bdO {α : Type} (e : TypeId) (size : Nat) (enc : α → List Value) (v : Value) (l : List α) : Bd :=
  ⟨fun W => Own W 0 e size enc v l, fun k => v.ownBlock = some k, 0, fun h q => (h.lt _ q).2, fun h m n _ => own_fr h m (fun k q => n k q)⟩
section
variable {w0 w w' : World} {F : Fm} {A A' R : Bd} {G : Nat → Prop}
theorem Kf.chg (K : Kf w0 F (A.sep R) w) (hm : Mv G w w') (hG : ∀ k, G k → A.f k ∨ w.heap.size ≤ k) (hp : A'.p w') (hf : ∀ k, A'.f k → A.f k ∨ w.heap.size ≤ k) (hlo : A'.lo ≤ A.lo) : Kf w0 F (A'.sep R) w' := by
  have hwl := K.below.size
  have hl : max A.lo R.lo ≤ w0.heap.size := K.lo
  have hge : ∀ k, G k → w0.heap.size ≤ k := fun k hk => (hG k hk).elim (fun q => K.nw k (.inl q)) (fun q => by omega)
  have hR : ∀ k, R.f k → ¬ G k := fun k hk hg => (hG k hg).elim (fun q => K.a.2.2 k q hk) (fun q => by have := R.lt K.a.2.1 hk; omega)
  refine ⟨fun l x h => ?_, ?_, K.new, K.inj, ⟨hp, R.mv K.a.2.1 hm hR (fun k hk => by have := hge k hk; omega), fun k hk hr => ?_⟩, fun l x h hq => ?_, fun k hk => ?_, ?_⟩
  · have hb := K.all l x h
    exact blk_fr hb hm fun hg => (hG _ hg).elim (fun q => K.ap l x h (.inl q)) (fun q => by have := hb.lt; omega)
  · exact ⟨hm.os.trans K.below.os, hm.tape.trans K.below.tape, hm.output.trans K.below.output, Nat.le_trans hwl hm.size, fun k hk => (hm.block k (by omega) (fun hg => by have := hge k hg; omega)).trans (K.below.block k hk)⟩
  · exact (hf k hk).elim (fun q => K.a.2.2 k q hr) (fun q => by have := R.lt K.a.2.1 hr; omega)
  · rcases hq with hq | hq
    · exact (hf _ hq).elim (fun q => K.ap l x h (.inl q)) (fun q => by have := (K.all l x h).lt; omega)
    · exact K.ap l x h (.inr hq)
  · rcases hk with hk | hk
    · exact (hf k hk).elim (fun q => K.nw k (.inl q)) (fun q => by omega)
    · exact K.nw k (.inr hk)
  · show max A'.lo R.lo ≤ _
    omega
theorem mv_grown {r : Option Nat} (h : w.grownBy w' r) : Mv (fun k => r = some k) w w' := ⟨h.os, h.tape, h.output, h.size, fun k hk hn => h.block k hk (fun e => hn e.symm)⟩
end
section
variable {α : Type} {P : Program} {t e : TypeId} {size : Nat} {enc : α → List Value} {w0 w : World} {F : Fm} {R : Bd} {v vx : Value} {l : List α} {g m k : Nat} {x : α}
theorem one_p {A : Bd} {W : World} (h : ((sepL [A]).sep R).p W) : A.p W := h.1.1
theorem Kf.one {A : Bd} (K : Kf w0 F ((sepL [A]).sep R) w) : A.p w := K.a.1.1
/-- The sizes of an element's type; what it is, as a value. -/
structure ElV (P : Program) (t e : TypeId) (size : Nat) (enc : α → List Value) (val : α → Value) : Prop extends ElT P t e size enc where
  el : P.elem t = e
  cells : ∀ x, (val x).cells = (enc x).toArray
  kind : (rowT P e = true ∧ ∀ x, val x = .agg (enc x).toArray) ∨ (plainT (P.underlying e) = true ∧ size = 1 ∧ ∀ x, enc x = [val x])
variable {val : α → Value} (E : ElV P t e size enc val)
theorem ElV.sz (E : ElV P t e size enc val) : (P.info? e).map (·.size) = some size := by
  obtain ⟨i, z, b, h1, h2, h3, h4, h5, h6⟩ := E.info
  rw [h1, ← h3]
  rfl
theorem run_ix (E : ElV P t e size enc val) (n m : Nat) (hk : k < n) (W : World) : (Instr.indexAt t (.slice (some ⟨g, 0, none⟩) n m) (.int .i64 (k : Nat))).run P W = .ok (.pointer (some ⟨g, k * size, none⟩)) W := by
  have hs := E.sz
  rw [run_indexAt_slice (h := by rw [E.el]; exact E.ht), if_pos (by omega), E.el]
  cases c : P.info? e with
  | none => rw [c] at hs; cases hs
  | some i =>
    rw [c] at hs
    have hs : i.size = size := by simpa using hs
    simp [sizeOf, typeInfo, c, Addr.add, hs]
    try omega
theorem run_ld (E : ElV P t e size enc val) (h : Own w 0 e size enc (.slice (some ⟨g, 0, none⟩) l.length m) l) (hx : l[k]? = some x) : (Instr.loadAt e (.pointer (some ⟨g, k * size, none⟩))).run P w = .ok (val x) w := by
  rcases E.kind with ⟨h1, h2⟩ | ⟨h1, h2⟩
  · unfold rowT at h1
    split at h1
    · next d hd =>
      have hr : w.rangeAt g (k * size) (enc x) := fun j u hu => by
        have hj : j < size := by have := (List.getElem?_eq_some_iff.1 hu).1; rw [E.len] at this; exact this
        rw [h.at E.len k j x hx hj]; exact hu
      have e2 := run_loadVar_mid w g (k * size) e (enc x) d hr hd h1 (by rw [E.len]; exact E.sz)
      simp only [Instr.loadAt, Instr.sureAddr, Sem.run_bind, Sem.run_pure, Result.andThen_ok, e2, h2]
    · cases h1
  · have hc := h.at E.len k 0 x hx (by omega)
    rw [h2.2 x] at hc
    exact run_loadAt_cell h1 hc
theorem run_st (E : ElV P t e size enc val) (h : Own w 0 e size enc (.slice (some ⟨g, 0, none⟩) l.length m) l) (hk : k < l.length) (x : α) : (Instr.storeAt e (.pointer (some ⟨g, k * size, none⟩)) (val x)).run P w = .ok () (w.setCells g (k * size) (enc x)) := by
  have hc := E.cells x
  have hl : (val x).cells.size = size := by rw [hc]; simp [E.len]
  have e2 := run_storeVar_any (P := P) w g (k * size) e (val x) (by rw [hl]; exact h.there E.len k hk) (by rw [hl]; exact E.sz) (by rw [hc]; simp only [Array.all_eq_true_iff_forall_mem]; intro u hu; exact E.one x u (by simpa using hu))
  simp only [Instr.storeAt, Instr.sureAddr, Sem.run_bind, Sem.run_pure, Result.andThen_ok, e2, hc]
/-- A place in a list. -/
def oIx (E : ElV P t e size enc val) (g n m : Nat) {k : Nat} (hk : k < n) : Ora P :=
  .x true (.s fun _ => do pure (.value (← Instr.indexAt t (.slice (some ⟨g, 0, none⟩) n m) (.int .i64 (k : Nat))))) 0 [] [] (.pointer (some ⟨g, k * size, none⟩))
    (fun w0 F R β w K => by
      show stepS P _ _ w
      unfold stepS
      simp only [Sem.run_bind, Sem.run_pure, Result.andThen_ok, run_ix E n m hk w]
      exact ⟨trivial, K⟩)
/-- An element of a list is read. -/
def oLd (E : ElV P t e size enc val) (p : Nat) (g n m : Nat) {l : List α} {k : Nat} {x : α} (hx : l[k]? = some x) (hn : l.length = n) : Ora P :=
  .x true (.s fun _ => do pure (.value (← Instr.loadAt e (.pointer (some ⟨g, k * size, none⟩))))) p [bdO e size enc (.slice (some ⟨g, 0, none⟩) n m) l] [bdO e size enc (.slice (some ⟨g, 0, none⟩) n m) l] (val x)
    (fun w0 F R β w K => by
      subst hn
      show stepS P _ _ w
      unfold stepS
      have h : Own w 0 e size enc (.slice (some ⟨g, 0, none⟩) l.length m) l := K.one
      simp only [Sem.run_bind, Sem.run_pure, Result.andThen_ok, run_ld E h hx]
      exact ⟨trivial, K⟩)
/-- An element of a list is set. -/
def oSt (E : ElV P t e size enc val) (p : Nat) (g n m : Nat) {l l2 : List α} {k : Nat} (x : α) (hk : k < n) (hn : l.length = n) (h2 : l.set k x = l2) : Ora P :=
  .x false (.s fun _ => do (Instr.storeAt e (.pointer (some ⟨g, k * size, none⟩)) (val x)); pure .skip) p [bdO e size enc (.slice (some ⟨g, 0, none⟩) n m) l] [bdO e size enc (.slice (some ⟨g, 0, none⟩) n m) l2] undef
    (fun w0 F R β w K => by
      subst hn
      subst h2
      show stepS P _ _ w
      unfold stepS
      have h : Own w 0 e size enc (.slice (some ⟨g, 0, none⟩) l.length m) l := K.one
      simp only [Sem.run_bind, Sem.run_pure, Result.andThen_ok, run_st E h hk x]
      obtain ⟨h1, h2⟩ := h.store E.len k x hk
      refine ⟨trivial, ?_⟩
      refine Kf.chg (A' := sepL [bdO e size enc (.slice (some ⟨g, 0, none⟩) l.length m) (l.set k x)]) K (mv_grown h2) (fun j hj => .inl (.inl hj)) ⟨h1, trivial, fun _ _ h => h⟩ (fun j hj => .inl hj) (Nat.le_refl _))
theorem own_shape (h : Own w 0 e size enc v l) : ∃ a c, v = .slice a l.length c := by
  rcases h.cases with ⟨h1, h2⟩ | ⟨g, c, h1, -⟩
  · exact ⟨none, 0, by rw [h1, h2]; rfl⟩
  · exact ⟨_, c, h1⟩
/-- A slice that is made beside is put behind a list. -/
def oAp (E : ElV P t e size enc val) (ty : TypeId) (p : Nat) (lb : Nat) (cs : Array Bool) (v : Value) (l news : List α) (N : Nat) (hN : l.length + news.length = N) (hl : N ≤ 2000) (rest : Option Addr × Nat → List (Ora P)) : Ora P :=
  .e (Option Addr × Nat) (none, 0) (.s fun β => builtin .append #[t, t] ty cs #[v, .slice (some ⟨β.getD lb 0, 0, none⟩) news.length news.length]) [(lb, (cellsL enc news).toArray, e)] p [bdO e size enc v l] (fun y => [bdO e size enc (.slice y.1 N y.2) (l ++ news)]) (fun y => .slice y.1 N y.2)
    (fun w0 F R β w hlo K => by
      show stepS P _ _ w
      unfold stepS
      have h : Own w 0 e size enc v l := K.one
      obtain ⟨k, hk⟩ := hlo (lb, (cellsL enc news).toArray, e) List.mem_cons_self
      have hb := K.all k _ hk
      have hs : Src w enc (.slice (some ⟨β.getD lb 0, 0, none⟩) news.length news.length) news := .inr ⟨_, _, rfl, fun j u hu => by
        rw [show (⟨β.getD lb 0, 0, none⟩ : Addr).add j = ⟨β.getD lb 0, j, none⟩ by simp [Addr.add]; try omega]
        have := hb.cell j
        rw [this]
        simpa using hu⟩
      obtain ⟨v', w', h1, h2, h3, h4⟩ := E.toElT.app h hs (by omega) (Nat.zero_le _) ty
      obtain ⟨a, c, hv⟩ := own_shape h2
      rw [List.length_append, hN] at hv
      simp only [builtin, Sem.run_bind, Sem.run_pure, Result.andThen_ok, h1]
      refine ⟨(a, c), hv, ?_⟩
      rw [hv] at h2 h4
      refine Kf.chg (A' := sepL [bdO e size enc (.slice a N c) (l ++ news)]) K (mv_grown h3) (fun j hj => .inl (.inl hj)) ⟨h2, trivial, fun _ _ h => h⟩ (fun j hj => ?_) (Nat.le_refl _)
      rcases hj with hj | hj
      · have hj : (Value.slice a N c).ownBlock = some j := hj
        rcases h4 with q | q
        · exact .inl (.inl (q.symm.trans hj))
        · right
          rw [q] at hj
          injection hj with hj
          omega
      · exact (hj : False).elim) rest
/-- Nothing is owned at first. -/
theorem nil_own (e : TypeId) (size : Nat) (enc : α → List Value) (A : Bds) : ∀ w0 F R w, Kf w0 F ((sepL A).sep R) w → Kf w0 F ((sepL (bdO e size enc (.slice none 0 0) [] :: A)).sep R) w := fun w0 F R w K =>
  Kf.iff K (fun h => ⟨⟨Own.nil _ _ _ _ _, h.1, fun k hk => by cases hk⟩, h.2.1, fun k hk => hk.elim (fun q => by cases q) (h.2.2 k)⟩) (fun k hk => hk.elim (fun q => q.elim (fun q => by cases q) .inl) .inr) (by
    show max (max 0 (sepL A).lo) R.lo ≤ max (sepL A).lo R.lo
    omega)
end
end Go.Proofs.YtccbdmccfbjmeaaDoor.Ev
end
section
/- What is told of methods. -/
namespace Go.Proofs.YtccbdmccfbjmeaaDoor.Ev
open Go.RowKit

/-- A method: what it answers, what becomes of its block, and of what is owned. -/
def Meth (P : Program) (f : FuncId) (args : List Value) (cs : Array Value) (ty : TypeId) (A : Bds) (Y : Type) (v : Y → Value) (cs' : Y → Array Value) (A' : Y → Bds) : Prop :=
  ∀ w0 (F : Fm) (R : Bd) (k b : Nat) w, F k = some (b, cs, ty) → Kf w0 F ((sepL A).sep R) w →
    Calls P f (Value.pointer (some ⟨b, 0, none⟩) :: args).toArray w fun e w' => ∃ y, e = .returned (v y) ∧ Kf w0 (upF F k (b, cs' y, ty)) ((sepL (A' y)).sep R) w'
section
variable {P : Program} {f : FuncId} {args : List Value} {cs : Array Value} {ty : TypeId} {A : Bds} {Y : Type} {v : Y → Value} {cs' : Y → Array Value} {A' : Y → Bds}
theorem sep_app {w0 w : World} {F : Fm} {A : Bds} {R : Bd} (K : Kf w0 F ((sepL A).sep R) w) : Kf w0 F (sepL (A ++ [R])) w := by
  have e : A ++ [R] = [] ++ (A ++ [R]) := rfl
  rw [e]
  refine Kf.ofMid (Kf.iff K (fun h => ⟨h.1, ⟨h.2.1, trivial, fun _ _ h => h⟩, fun k hk hn => h.2.2 k hk (hn.elim id fun h => (h : False).elim)⟩) (fun k hk => hk.elim .inl fun h => h.elim .inr fun h => (h : False).elim) ?_)
  show max (sepL A).lo (max R.lo 0) ≤ max (sepL A).lo R.lo
  omega
theorem app_sep {w0 w : World} {F : Fm} {A : Bds} {R : Bd} (K : Kf w0 F (sepL (A ++ [R])) w) : Kf w0 F ((sepL A).sep R) w := by
  have e : A ++ [R] = [] ++ (A ++ [R]) := rfl
  rw [e] at K
  refine Kf.iff (Kf.toMid K) (fun h => ⟨h.1, h.2.1.1, fun k hk hn => h.2.2 k hk (.inl hn)⟩) (fun k hk => hk.elim .inl fun h => .inr (.inl h)) ?_
  show max (sepL A).lo R.lo ≤ max (sepL A).lo (max R.lo 0)
  omega
def methG (ty : TypeId) (Y : Type) (v : Y → Value) (cs' : Y → Array Value) (A' : Y → Bds) (R : Bd) : Goal := fun u m A => ∃ y, u = v y ∧ m = [(cs' y, ty)] ∧ A = A' y ++ [R]
def finO (ty : TypeId) (Y : Type) (v : Y → Value) (cs' : Y → Array Value) (A' : Y → Bds) (R : Bd) (y : Y) : Ora P := .fin (methG ty Y v cs' A' R) (v y) [(cs' y, ty)] (A' y ++ [R]) ⟨y, rfl, rfl, rfl⟩
theorem ev_meth (r : Bd → (Y → Ora P) → List (Ora P)) (h : ∀ R β w, (evFn P 1 f (.p 0 0 :: args.map .v) [(cs, ty)] (A ++ [R]) (r R (finO ty Y v cs' A' R)) (fun rs => finK P 1 rs (methG ty Y v cs' A' R)) β w).1 = (evFn P 1 f (.p 0 0 :: args.map .v) [(cs, ty)] (A ++ [R]) (r R (finO ty Y v cs' A' R)) (fun rs => finK P 1 rs (methG ty Y v cs' A' R)) β w).2) : Meth P f args cs ty A Y v cs' A' := by
  intro w0 F R k b w hF K
  have K1 : Kv w0 (fun j => if j = k then none else F j) [b] [(cs, ty)] (A ++ [R]) w := by
    refine Kf.re (sep_app K) (fun l x hx => ?_) (fun l l' x x' hx hx' e => ?_)
    · unfold mix at hx
      split at hx
      · by_cases c : l / 2 = 0
        · rw [c] at hx
          injection hx with hx
          exact ⟨k, by rw [← hx]; exact hF⟩
        · rw [List.getElem?_eq_none (by simp; omega)] at hx; cases hx
      · dsimp only at hx
        split at hx
        · cases hx
        · exact ⟨_, hx⟩
    · have key : ∀ l x, mix [b] [(cs, ty)] (fun j => if j = k then none else F j) l = some x → (l = 0 ∧ F k = some x) ∨ (l % 2 = 1 ∧ l / 2 ≠ k ∧ F (l / 2) = some x) := fun l x hx => by
        unfold mix at hx
        split at hx
        · by_cases c : l / 2 = 0
          · rw [c] at hx
            injection hx with hx
            exact .inl ⟨by omega, by rw [← hx]; exact hF⟩
          · rw [List.getElem?_eq_none (by simp; omega)] at hx; cases hx
        · dsimp only at hx
          split at hx
          · cases hx
          · exact .inr ⟨by omega, by assumption, hx⟩
      rcases key l x hx with ⟨h1, h2⟩ | ⟨h1, h2, h3⟩ <;> rcases key l' x' hx' with ⟨j1, j2⟩ | ⟨j1, j2, j3⟩
      · omega
      · exact absurd (K.inj _ _ _ _ h2 j3 e).symm j2
      · exact absurd (K.inj _ _ _ _ h3 j2 e) h2
      · have := K.inj _ _ _ _ h3 j3 e
        omega
  have q := ev_fn (P := P) (q := 1) (f := f) (.p 0 0 :: args.map .v) [(cs, ty)] (A ++ [R]) (methG ty Y v cs' A' R) (r R _) (h R) (Nat.le_refl _) w0 _ [b] w rfl K1
  have ea : ((SV.p 0 0 :: args.map SV.v).map (SV.den [b])).toArray = (Value.pointer (some ⟨b, 0, none⟩) :: args).toArray := by
    rw [List.map_cons, List.map_map]
    have : (SV.den [b]) ∘ SV.v = id := by funext x; rfl
    rw [this, List.map_id]
    rfl
  rw [← ea]
  refine q.mono fun e w' ⟨u, m', A2, β', e1, ⟨y, e2, e3, e4⟩, ht, hl, K2⟩ => ⟨y, by rw [e1, e2], ?_⟩
  subst e3 e4
  have hb : β'.getD 0 0 = b := by
    cases β' with
    | nil => cases hl
    | cons x xs => simp at ht; rw [ht]; rfl
  refine app_sep (Kf.re K2 (fun l x hx => ?_) (fun l l' x x' hx hx' e => ?_))
  · unfold upF at hx
    split at hx
    · injection hx with hx
      refine ⟨0, ?_⟩
      unfold mix
      rw [if_pos rfl]
      show some (β'.getD 0 0, cs' y, ty) = _
      rw [hb, hx]
    · next c =>
      refine ⟨2 * l + 1, ?_⟩
      unfold mix
      rw [if_neg (by omega), show (2 * l + 1) / 2 = l by omega]
      rw [show (fun j => if j = k then none else F j) l = F l from if_neg c]
      exact hx
  · have key : ∀ l x, upF F k (b, cs' y, ty) l = some x → ∃ l2, mix β' [(cs' y, ty)] (fun j => if j = k then none else F j) l2 = some x ∧ (l2 = 0 ∧ l = k ∨ l2 = 2 * l + 1) := fun l x hx => by
      unfold upF at hx
      split at hx
      · next c =>
        injection hx with hx
        refine ⟨0, ?_, .inl ⟨rfl, c⟩⟩
        unfold mix
        rw [if_pos rfl]
        show some (β'.getD 0 0, cs' y, ty) = _
        rw [hb, hx]
      · next c =>
        refine ⟨2 * l + 1, ?_, .inr rfl⟩
        unfold mix
        rw [if_neg (by omega), show (2 * l + 1) / 2 = l by omega]
        rw [show (fun j => if j = k then none else F j) l = F l from if_neg c]
        exact hx
    obtain ⟨l2, h1, h2⟩ := key l x hx
    obtain ⟨l3, j1, j2⟩ := key l' x' hx'
    have := Kf.inj K2 _ _ _ _ h1 j1 e
    omega
/-- A method is called with the l-th block. -/
def oM (h : Meth P f args cs ty A Y v cs' A') (l p : Nat) (rest : Y → List (Ora P)) : Ora P :=
  .h Y (.c f (.p l 0 :: args.map .v)) l cs ty p A cs' A' v (fun w0 F R β k w hF K => by
    have ea : ((SV.p l 0 :: args.map SV.v).map (SV.den β)).toArray = (Value.pointer (some ⟨β.getD l 0, 0, none⟩) :: args).toArray := by
      rw [List.map_cons, List.map_map]
      have : (SV.den β) ∘ SV.v = id := by funext x; rfl
      rw [this, List.map_id]
      rfl
    show Calls P f _ w _
    rw [ea]
    exact (h w0 F R k _ w hF K).mono fun e w' ⟨y, e1, e2⟩ => ⟨v y, e1, y, rfl, e2⟩) rest
/-- What is owned tells something. -/
theorem TP_use {q : Nat} {c : Code} {s : St} {G : Exit → St → Prop} {φ : Prop} (h1 : ∀ w, (sepL s.A).p w → φ) (h2 : φ → TP P q c s G) : TP P q c s G :=
  fun w0 F β a w R => h2 (h1 w (Kf.a R.k)) w0 F β a w R
theorem own_ptr {α : Type} {e : TypeId} {size : Nat} {enc : α → List Value} {w : World} {a : Option Addr} {n m k : Nat} {l : List α} (h : Own w 0 e size enc (.slice a n m) l) (hk : k < l.length) : ∃ g, a = some ⟨g, 0, none⟩ := by
  rcases h.cases with ⟨_, h2⟩ | ⟨g, cap, h2, -⟩
  · rw [h2] at hk; cases hk
  · injection h2 with h2; exact ⟨g, h2⟩
end
end Go.Proofs.YtccbdmccfbjmeaaDoor.Ev
end
section
/- What is told of functions that make things which are owned. -/
namespace Go.Proofs.YtccbdmccfbjmeaaDoor.Ev
open Go.RowKit

/-- A function: what it answers, and what becomes of what is owned. -/
def Fun (P : Program) (f : FuncId) (args : List Value) (A : Bds) (Y : Type) (v : Y → Value) (A' : Y → Bds) : Prop :=
  ∀ w0 (F : Fm) (R : Bd) w, Kf w0 F ((sepL A).sep R) w → Calls P f args.toArray w fun e w' => ∃ y, e = .returned (v y) ∧ Kf w0 F ((sepL (A' y)).sep R) w'
section
variable {P : Program} {f : FuncId} {args : List Value} {A : Bds} {Y : Type} {v : Y → Value} {A' : Y → Bds}
def funG (Y : Type) (v : Y → Value) (A' : Y → Bds) (R : Bd) : Goal := fun u m A => ∃ y, u = v y ∧ m = [] ∧ A = A' y ++ [R]
def finF (Y : Type) (v : Y → Value) (A' : Y → Bds) (R : Bd) (y : Y) : Ora P := .fin (funG Y v A' R) (v y) [] (A' y ++ [R]) ⟨y, rfl, rfl, rfl⟩
theorem ev_fun (r : Bd → (Y → Ora P) → List (Ora P)) (h : ∀ R β w, (evFn P 0 f (args.map .v) [] (A ++ [R]) (r R (finF Y v A' R)) (fun rs => finK P 0 rs (funG Y v A' R)) β w).1 = (evFn P 0 f (args.map .v) [] (A ++ [R]) (r R (finF Y v A' R)) (fun rs => finK P 0 rs (funG Y v A' R)) β w).2) : Fun P f args A Y v A' := by
  intro w0 F R w K
  have q := ev_fn (P := P) (q := 0) (f := f) (args.map .v) [] (A ++ [R]) (funG Y v A' R) (r R _) (h R) (Nat.le_refl _) w0 F [] w rfl (Kv.start (sep_app K))
  have ea : ((args.map SV.v).map (SV.den [])).toArray = args.toArray := by
    rw [List.map_map]
    have : (SV.den []) ∘ SV.v = id := by funext x; rfl
    rw [this, List.map_id]
  rw [← ea]
  refine q.mono fun e w' ⟨u, m', A2, β', e1, ⟨y, e2, e3, e4⟩, ht, hl, K2⟩ => ⟨y, by rw [e1, e2], ?_⟩
  subst e3 e4
  exact app_sep (Kv.stop K2)
/-- A call of such a function. -/
def oF (h : Fun P f args A Y v A') (y0 : Y) (p : Nat) (rest : Y → List (Ora P)) : Ora P :=
  .e Y y0 (.c f (args.map .v)) [] p A A' v (fun w0 F R β w _ K => by
    have ea : ((args.map SV.v).map (SV.den β)).toArray = args.toArray := by
      rw [List.map_map]
      have : (SV.den β) ∘ SV.v = id := by funext x; rfl
      rw [this, List.map_id]
    show Calls P f _ w _
    rw [ea]
    exact (h w0 F R w K).mono fun e w' ⟨y, e1, e2⟩ => ⟨v y, e1, y, rfl, e2⟩) rest
theorem LP_own {q : Nat} {body : Code} {I : Type} {S : I → St} {μ : I → Nat} {Y : Type} {E : Exit} {S' : Y → St} {i : I} {α : Type} {e : TypeId} {size : Nat} {enc : α → List Value} {a : Option Addr} {n m k : Nat} {l : List α} (p : Nat) (hp : (S i).A[p]? = some (bdO e size enc (.slice a n m) l)) (hk : k < l.length)
    (h2 : (∃ g, a = some ⟨g, 0, none⟩) → LP P q body S μ E S' i) : LP P q body S μ E S' i :=
  LP_use (fun w hw => own_ptr (w := w) (e := e) (size := size) (enc := enc) (n := n) (m := m) ((sepL_p.1 hw).1 _ (List.mem_of_getElem? hp)) hk) h2
end
end Go.Proofs.YtccbdmccfbjmeaaDoor.Ev
end
section
/- Places in lists that are owned, whatever their header. -/
namespace Go.Proofs.YtccbdmccfbjmeaaDoor.Ev
open Go.RowKit
/-- The place that many cells on. -/
def hop (a : Option Addr) (j : Nat) : Option Addr := match a with
  | none => none
  | some x => some ⟨x.1, j, none⟩
section
variable {α : Type} {P : Program} {t e : TypeId} {size : Nat} {enc : α → List Value} {val : α → Value} (E : ElV P t e size enc val)
def oJx (E : ElV P t e size enc val) (p : Nat) (a : Option Addr) (n m : Nat) {l : List α} {k : Nat} (hk : k < n) (hn : l.length = n) : Ora P :=
  .x true (.s fun _ => do pure (.value (← Instr.indexAt t (.slice a n m) (.int .i64 (k : Nat))))) p [bdO e size enc (.slice a n m) l] [bdO e size enc (.slice a n m) l] (.pointer (hop a (k * size)))
    (fun w0 F R β w K => by
      subst hn
      have h : Own w 0 e size enc (.slice a l.length m) l := K.one
      obtain ⟨g, rfl⟩ := own_ptr h hk
      show stepS P _ _ w
      unfold stepS
      simp only [Sem.run_bind, Sem.run_pure, Result.andThen_ok, run_ix E l.length m hk w]
      exact ⟨rfl, K⟩)
def oJd (E : ElV P t e size enc val) (p : Nat) (a : Option Addr) (n m : Nat) {l : List α} {k : Nat} {x : α} (hx : l[k]? = some x) (hn : l.length = n) : Ora P :=
  .x true (.s fun _ => do pure (.value (← Instr.loadAt e (.pointer (hop a (k * size)))))) p [bdO e size enc (.slice a n m) l] [bdO e size enc (.slice a n m) l] (val x)
    (fun w0 F R β w K => by
      subst hn
      have h : Own w 0 e size enc (.slice a l.length m) l := K.one
      obtain ⟨g, rfl⟩ := own_ptr h (List.getElem?_eq_some_iff.1 hx).1
      show stepS P _ _ w
      unfold stepS
      have q := run_ld E h hx
      simp only [Sem.run_bind, Sem.run_pure, Result.andThen_ok, hop, q]
      exact ⟨trivial, K⟩)
def oJt (E : ElV P t e size enc val) (p : Nat) (a : Option Addr) (n m : Nat) {l l2 : List α} {k : Nat} (x : α) (hk : k < n) (hn : l.length = n) (h2 : l.set k x = l2) : Ora P :=
  .x false (.s fun _ => do (Instr.storeAt e (.pointer (hop a (k * size))) (val x)); pure .skip) p [bdO e size enc (.slice a n m) l] [bdO e size enc (.slice a n m) l2] undef
    (fun w0 F R β w K => by
      subst hn
      subst h2
      have h : Own w 0 e size enc (.slice a l.length m) l := K.one
      obtain ⟨g, rfl⟩ := own_ptr h hk
      show stepS P _ _ w
      unfold stepS
      simp only [Sem.run_bind, Sem.run_pure, Result.andThen_ok, hop, run_st E h hk x]
      obtain ⟨h1, h2⟩ := h.store E.len k x hk
      refine ⟨trivial, ?_⟩
      refine Kf.chg (A' := sepL [bdO e size enc (.slice (some ⟨g, 0, none⟩) l.length m) (l.set k x)]) K (mv_grown h2) (fun j hj => .inl (.inl hj)) ⟨h1, trivial, fun _ _ h => h⟩ (fun j hj => .inl hj) (Nat.le_refl _))
end
end Go.Proofs.YtccbdmccfbjmeaaDoor.Ev
end
section
/- Fields of elements; methods whose lists have a header that is told. -/
namespace Go.Proofs.YtccbdmccfbjmeaaDoor.Ev
open Go.RowKit
theorem cells_put {α : Type} {enc : α → List Value} {size : Nat} (henc : ∀ x, (enc x).length = size) (j : Nat) (hj : j < size) (u : Value) (x' : α) : ∀ (l : List α) (k : Nat) (x : α), l[k]? = some x → enc x' = (enc x).set j u → (cellsL enc l).set (k * size + j) u = cellsL enc (l.set k x')
  | [], _, _, h, _ => by cases h
  | y :: l, 0, x, h, he => by
    have : y = x := by simpa using h
    subst this
    rw [cellsL_cons, Nat.zero_mul, Nat.zero_add, List.set_append_left _ _ (by rw [henc]; exact hj), ← he]
    rfl
  | y :: l, k + 1, x, h, he => by
    have e : (k + 1) * size + j = size + (k * size + j) := by rw [Nat.succ_mul]; omega
    rw [cellsL_cons, e, List.set_append_right _ _ (by rw [henc]; omega), henc, Nat.add_sub_cancel_left, cells_put henc j hj u x' l k x (by simpa using h) he]
    rfl
section
variable {α : Type} {P : Program} {t e : TypeId} {size : Nat} {enc : α → List Value} {val : α → Value}
/-- One cell of an element is set. -/
def oSf (E : ElV P t e size enc val) (p : Nat) (g n m : Nat) {l l2 : List α} {k : Nat} (ty : TypeId) (j : Nat) (u : Value) {x : α} (x' : α) (hx : l[k]? = some x) (hn : l.length = n) (hj : j < size) (he : enc x' = (enc x).set j u) (hi : (P.info? ty).map (·.size) = some 1) (hc : u.cells = #[u]) (h1 : u.oneCell' = true) (h2 : l.set k x' = l2) : Ora P :=
  .x false (.s fun _ => do (Instr.storeAt ty (.pointer (some ⟨g, k * size + j, none⟩)) u); pure .skip) p [bdO e size enc (.slice (some ⟨g, 0, none⟩) n m) l] [bdO e size enc (.slice (some ⟨g, 0, none⟩) n m) l2] undef
    (fun w0 F R β w K => by
      subst hn
      subst h2
      have hk := (List.getElem?_eq_some_iff.1 hx).1
      show stepS P _ _ w
      unfold stepS
      have h : Own w 0 e size enc (.slice (some ⟨g, 0, none⟩) l.length m) l := K.one
      have ht : w.there g (k * size + j) u.cells.size := by
        rw [hc]
        have q := h.there E.len k hk
        intro i hi
        have hi : i < 1 := hi
        obtain rfl : i = 0 := by omega
        exact q j hj
      have e2 := run_storeVar_any (P := P) w g (k * size + j) ty u ht (by rw [hc]; exact hi) (by rw [hc]; simp [h1])
      simp only [Sem.run_bind, Sem.run_pure, Result.andThen_ok, Instr.storeAt, Instr.sureAddr, e2, hc]
      refine ⟨trivial, ?_⟩
      obtain ⟨s1, s2⟩ := World.ownsRow.stored h (k * size + j) u
      rw [cells_put E.len j hj u x' l k x hx he] at s1
      refine Kf.chg (A' := sepL [bdO e size enc (.slice (some ⟨g, 0, none⟩) l.length m) (l.set k x')]) K (mv_grown s2) (fun j hj => .inl (.inl hj)) ⟨?_, trivial, fun _ _ h => h⟩ (fun j hj => .inl hj) (Nat.le_refl _)
      show Own _ 0 e size enc (.slice (some ⟨g, 0, none⟩) l.length m) (l.set k x')
      unfold Own
      rw [List.length_set]
      exact s1)
/-- One cell of an element is read. -/
def oLf (E : ElV P t e size enc val) (p : Nat) (g n m : Nat) {l : List α} {k : Nat} (ty : TypeId) (j : Nat) (u : Value) {x : α} (hx : l[k]? = some x) (hn : l.length = n) (hj : j < size) (he : (enc x)[j]? = some u) (hu : plainT (P.underlying ty) = true) : Ora P :=
  .x true (.s fun _ => do pure (.value (← Instr.loadAt ty (.pointer (some ⟨g, k * size + j, none⟩))))) p [bdO e size enc (.slice (some ⟨g, 0, none⟩) n m) l] [bdO e size enc (.slice (some ⟨g, 0, none⟩) n m) l] u
    (fun w0 F R β w K => by
      subst hn
      show stepS P _ _ w
      unfold stepS
      have h : Own w 0 e size enc (.slice (some ⟨g, 0, none⟩) l.length m) l := K.one
      have hc := h.at E.len k j x hx hj
      rw [he] at hc
      simp only [Sem.run_bind, Sem.run_pure, Result.andThen_ok, run_loadAt_cell hu hc]
      exact ⟨trivial, K⟩)
end
section
variable {P : Program} {f : FuncId} {args : List Value} {cs : Array Value} {ty : TypeId} {A : Bds} {Y : Type} {v : Y → Value} {cs' : Y → Array Value} {A' : Y → Bds}
/-- A list that is owned and isn't empty tells where it lies. -/
theorem Meth_own {α : Type} {e : TypeId} {size : Nat} {enc : α → List Value} {a : Option Addr} {n m k : Nat} {l : List α} (p : Nat) (hp : A[p]? = some (bdO e size enc (.slice a n m) l)) (hk : k < l.length)
    (h2 : (∃ g, a = some ⟨g, 0, none⟩) → Meth P f args cs ty A Y v cs' A') : Meth P f args cs ty A Y v cs' A' :=
  fun w0 F R k b w hF K => h2 (own_ptr (w := w) (e := e) (size := size) (enc := enc) (n := n) (m := m) ((sepL_p.1 K.a.1).1 _ (List.mem_of_getElem? hp)) hk) w0 F R k b w hF K
end
end Go.Proofs.YtccbdmccfbjmeaaDoor.Ev
end
section
/- One's own block as an owned thing, and back. -/
namespace Go.Proofs.YtccbdmccfbjmeaaDoor.Ev
open Go.RowKit
/-- A block that is owned. -/
def bdB (b : Nat) (cs : Array Value) (ty : TypeId) : Bd :=
  ⟨fun W => Blk W b cs ty, fun k => k = b, 0, fun h e => e ▸ h.lt, fun h m n _ => blk_fr h m (n b rfl)⟩
section
variable {w0 w : World} {F : Fm} {A : Bd} {b l : Nat} {cs : Array Value} {ty : TypeId}
theorem Kf.own (K : Kf w0 F A w) (e : F l = some (b, cs, ty)) : Kf w0 (fun j => if j = l then Option.none else F j) ((bdB b cs ty).sep A) w := by
  have key : ∀ {j x}, (if j = l then Option.none else F j) = some x → j ≠ l ∧ F j = some x := fun {j x} h => by
    split at h
    · cases h
    · exact ⟨by assumption, h⟩
  refine ⟨fun j x h => K.all j x (key h).2, K.below, fun j x h => K.new j x (key h).2, fun j j' x x' h h' q => K.inj j j' x x' (key h).2 (key h').2 q, ⟨K.all l _ e, K.a, fun k hk ha => ?_⟩, fun j x h hf => ?_, fun k hk => ?_, ?_⟩
  · have hk : k = b := hk
    subst hk
    exact K.ap l _ e ha
  · rcases hf with hf | hf
    · exact (key h).1 (K.inj j l x _ (key h).2 e hf)
    · exact K.ap j x (key h).2 hf
  · rcases hk with hk | hk
    · have hk : k = b := hk
      subst hk
      exact K.new l _ e
    · exact K.nw k hk
  · have := K.lo
    show max 0 A.lo ≤ _
    omega
theorem Kf.free (K : Kf w0 F ((bdB b cs ty).sep A) w) : Kf w0 (fun j => if j = 0 then some (b, cs, ty) else F (j - 1)) A w := by
  have key : ∀ {j x}, (if j = 0 then some (b, cs, ty) else F (j - 1)) = some x → (j = 0 ∧ x = (b, cs, ty)) ∨ (j ≠ 0 ∧ F (j - 1) = some x) := fun {j x} h => by
    split at h
    · injection h with h
      exact .inl ⟨by assumption, h.symm⟩
    · exact .inr ⟨by assumption, h⟩
  refine ⟨fun j x h => ?_, K.below, fun j x h => ?_, fun j j' x x' h h' q => ?_, K.a.2.1, fun j x h hf => ?_, fun k hk => K.nw k (.inr hk), ?_⟩
  · rcases key h with ⟨h1, rfl⟩ | ⟨h1, h2⟩
    · exact K.a.1
    · exact K.all _ _ h2
  · rcases key h with ⟨h1, rfl⟩ | ⟨h1, h2⟩
    · exact K.nw b (.inl rfl)
    · exact K.new _ _ h2
  · rcases key h with ⟨h1, rfl⟩ | ⟨h1, h2⟩ <;> rcases key h' with ⟨j1, rfl⟩ | ⟨j1, j2⟩
    · omega
    · exact absurd (.inl q.symm) (K.ap _ _ j2)
    · exact absurd (.inl q) (K.ap _ _ h2)
    · have := K.inj _ _ _ _ h2 j2 q
      omega
  · rcases key h with ⟨h1, rfl⟩ | ⟨h1, h2⟩
    · exact K.a.2.2 b rfl hf
    · exact K.ap _ _ h2 (.inr hf)
  · have : max 0 A.lo ≤ w0.heap.size := K.lo
    omega
theorem sep_in {S R : Bd} (K : Kf w0 F ((A.sep S).sep R) w) : Kf w0 F (A.sep (S.sep R)) w :=
  Kf.iff K (fun h => ⟨h.1.1, ⟨h.1.2.1, h.2.1, fun k q => h.2.2 k (.inr q)⟩, fun k q hk => hk.elim (h.1.2.2 k q) (h.2.2 k (.inl q))⟩) (fun k hk => hk.elim (fun q => .inl (.inl q)) (fun q => q.elim (fun q => .inl (.inr q)) .inr)) (by
    show max A.lo (max S.lo R.lo) ≤ max (max A.lo S.lo) R.lo
    omega)
theorem sep_out {S R : Bd} (K : Kf w0 F (A.sep (S.sep R)) w) : Kf w0 F ((A.sep S).sep R) w :=
  Kf.iff K (fun h => ⟨⟨h.1, h.2.1.1, fun k q hk => h.2.2 k q (.inl hk)⟩, h.2.1.2.1, fun k q hk => q.elim (fun q => h.2.2 k q (.inr hk)) (fun q => h.2.1.2.2 k q hk)⟩) (fun k hk => hk.elim (fun q => q.elim .inl fun q => .inr (.inl q)) (fun q => .inr (.inr q))) (by
    show max (max A.lo S.lo) R.lo ≤ max A.lo (max S.lo R.lo)
    omega)
end
section
variable {P : Program} {f : FuncId} {args : List Value} {cs : Array Value} {ty : TypeId} {A : Bds} {Y : Type} {v : Y → Value} {cs' : Y → Array Value} {A' : Y → Bds}
abbrev pB (b : Nat) (o : Nat := 0) : Value := .pointer (some ⟨b, o, none⟩)
theorem Meth_in (h : Meth P f args cs ty A Y v cs' A') (b : Nat) : Fun P f (pB b :: args) (bdB b cs ty :: A) Y v (fun y => bdB b (cs' y) ty :: A' y) := by
  intro w0 F R w K
  refine (h w0 _ R 0 b w rfl (Kf.free (sep_in K))).mono fun e w' ⟨y, e1, e2⟩ => ⟨y, e1, ?_⟩
  have up : ∀ {l x}, F l = some x → upF (fun j => if j = 0 then some (b, cs, ty) else F (j - 1)) 0 (b, cs' y, ty) (l + 1) = some x := fun {l x} hx => by
    unfold upF
    rw [if_neg (by omega)]
    show (if l + 1 = 0 then _ else F (l + 1 - 1)) = _
    rw [if_neg (by omega)]
    exact hx
  refine sep_out (Kf.re (Kf.own (l := 0) e2 rfl) (fun l x hx => ⟨l + 1, ?_⟩) (fun l l' x x' hx hx' q => ?_))
  · show (if l + 1 = 0 then _ else _) = _
    rw [if_neg (by omega)]
    exact up hx
  · have e3 := e2.inj (l + 1) (l' + 1) x x' (up hx) (up hx') q
    omega
theorem Meth_out (h : ∀ b, Fun P f (pB b :: args) (bdB b cs ty :: A) Y v (fun y => bdB b (cs' y) ty :: A' y)) : Meth P f args cs ty A Y v cs' A' := by
  intro w0 F R k b w hF K
  refine (h b w0 _ R w (sep_out (Kf.own K hF))).mono fun e w' ⟨y, e1, e2⟩ => ⟨y, e1, ?_⟩
  have e3 := Kf.free (sep_in e2)
  have key : ∀ {l x}, upF F k (b, cs' y, ty) l = some x → ∃ l', (if l' = 0 then some (b, cs' y, ty) else (fun j => if j = k then Option.none else F j) (l' - 1)) = some x ∧ ((l = k ∧ l' = 0) ∨ (l ≠ k ∧ l' = l + 1)) := fun {l x} hx => by
    unfold upF at hx
    split at hx
    · injection hx with hx
      exact ⟨0, by rw [if_pos rfl, hx], .inl ⟨by assumption, rfl⟩⟩
    · next c => exact ⟨l + 1, by rw [if_neg (by omega)]; show (if l = k then Option.none else F l) = _; rw [if_neg c]; exact hx, .inr ⟨c, rfl⟩⟩
  refine Kf.re e3 (fun l x hx => (key hx).elim fun l' q => ⟨l', q.1⟩) fun l l' x x' hx hx' q => ?_
  obtain ⟨j, h1, h2⟩ := key hx
  obtain ⟨j', h1', h2'⟩ := key hx'
  have := e3.inj _ _ _ _ h1 h1' q
  omega
/-- A cell of a block that is owned. -/
def oBl {b : Nat} (p : Nat) (t2 : TypeId) (j : Nat) (u : Value) (hc : cs[j]? = some u) (hu : plainT (P.underlying t2) = true) : Ora P :=
  .x true (.s fun _ => do pure (.value (← Instr.loadAt t2 (.pointer (some ⟨b, j, none⟩))))) p [bdB b cs ty] [bdB b cs ty] u
    (fun w0 F R β w K => by
      show stepS P _ _ w
      unfold stepS
      have h : Blk w b cs ty := K.one
      have hc2 : w.cell? ⟨b, j, none⟩ = some u := by
        have := h.cell j
        rw [this, hc]
      simp only [Sem.run_bind, Sem.run_pure, Result.andThen_ok, run_loadAt_cell hu hc2]
      exact ⟨trivial, K⟩)
/-- A function whose answer is known. -/
def oU {v : Value} {A' : Bds} (rd : Bool) (h : Fun P f args A Unit (fun _ => v) (fun _ => A')) (p : Nat) : Ora P :=
  .x rd (.c f (args.map .v)) p A A' v (fun w0 F R β w K => by
    have ea : ((args.map SV.v).map (SV.den β)).toArray = args.toArray := by
      rw [List.map_map]
      have : (SV.den β) ∘ SV.v = id := by funext x; rfl
      rw [this, List.map_id]
    show Calls P f _ w _
    rw [ea]
    exact (h w0 F R w K).mono fun e w' ⟨y, e1, e2⟩ => ⟨v, e1, rfl, e2⟩)
end
end Go.Proofs.YtccbdmccfbjmeaaDoor.Ev
end
section
/- What is told of functions that answer a pointer to a block they made. -/
namespace Go.Proofs.YtccbdmccfbjmeaaDoor.Ev
open Go.RowKit
/-- A function that answers a pointer to a new block. -/
def Make (P : Program) (f : FuncId) (args : List Value) (A : Bds) (ty : TypeId) (Y : Type) (cs' : Y → Array Value) (A' : Y → Bds) : Prop :=
  ∀ w0 (F : Fm) (R : Bd) (k : Nat) w, F k = none → Kf w0 F ((sepL A).sep R) w → Calls P f args.toArray w fun e w' => ∃ y b, e = .returned (.pointer (some ⟨b, 0, none⟩)) ∧ Kf w0 (upF F k (b, cs' y, ty)) ((sepL (A' y)).sep R) w'
section
variable {P : Program} {f : FuncId} {args : List Value} {ty : TypeId} {A : Bds} {Y : Type} {cs' : Y → Array Value} {A' : Y → Bds}
def finM (rs : List ResultVar) (G : Goal) : Exit → St → List (Ora P) → Pr := fun e s r =>
  match r with
  | .fin G' _ m A _ :: _ => match rs with
    | [.tmp d] => match s.fr[d]? with
      | some (.p l 0) => Pr.and (fun _ _ => [(.b (isOut e), .b true), (.g G', .g G), (.m (s.m[l]?).toList, .m m), (.d s.A, .d A)]) (fun _ _ => ([], []))
      | _ => Pr.no
    | _ => Pr.no
  | _ => Pr.no
def makG (ty : TypeId) (Y : Type) (cs' : Y → Array Value) (A' : Y → Bds) (R : Bd) : Goal := fun _ m A => ∃ y, m = [(cs' y, ty)] ∧ A = A' y ++ [R]
def finP (ty : TypeId) (Y : Type) (cs' : Y → Array Value) (A' : Y → Bds) (R : Bd) (y : Y) : Ora P := .fin (makG ty Y cs' A' R) undef [(cs' y, ty)] (A' y ++ [R]) ⟨y, rfl, rfl⟩
theorem ev_make (r : Bd → (Y → Ora P) → List (Ora P)) (h : ∀ R β w, (evFn P 0 f (args.map .v) [] (A ++ [R]) (r R (finP ty Y cs' A' R)) (fun rs => finM rs (makG ty Y cs' A' R)) β w).1 = (evFn P 0 f (args.map .v) [] (A ++ [R]) (r R (finP ty Y cs' A' R)) (fun rs => finM rs (makG ty Y cs' A' R)) β w).2) : Make P f args A ty Y cs' A' := by
  intro w0 F R k w hFk K
  have ea : ((args.map SV.v).map (SV.den [])).toArray = args.toArray := by
    rw [List.map_map]
    have : (SV.den []) ∘ SV.v = id := by funext x; rfl
    rw [this, List.map_id]
  rw [← ea]
  refine evFn_sound (w0 := w0) (F := F) (β := []) (h R) (Nat.zero_le _) rfl (Kv.start (sep_app K)) fun fn e s' r' β' a' w' k1 Rl k3 k4 => ?_
  unfold finM at k1
  split at k1
  · next G' u m2 A2 hG r2 =>
    split at k1
    · next d hrs =>
      split at k1
      · next l hl =>
        obtain ⟨hk, -⟩ := okP_and k1
        have j := hk [] default
        simp only [okk_cons] at j
        obtain ⟨j1, j2, j3, j4, -⟩ := j
        injection j1 with j1
        injection j2 with j2
        injection j3 with j3
        injection j4 with j4
        subst j2
        obtain ⟨y, e1, e2⟩ := hG
        have hm : s'.m[l]? = some (cs' y, ty) := by
          rw [e1] at j3
          cases c : s'.m[l]? with
          | none => rw [c] at j3; cases j3
          | some x => rw [c] at j3; injection j3 with j3; rw [j3]
        have hd := Rl.fr d _ hl
        have er : fn.results = #[ResultVar.tmp d] := by
          have : fn.results.toList = [ResultVar.tmp d] := hrs
          rw [← Array.toArray_toList (xs := fn.results), this]
        have hr : (results fn a'.tmps).run P w' = .ok (.pointer (some ⟨β'.getD l 0, 0, none⟩)) w' := by
          refine results_of1 er ?_
          have q : a'.tmps.getD d undef = .pointer (some ⟨β'.getD l 0, 0, none⟩) := hd
          unfold resM
          dsimp only
          rw [q]
          rfl
        refine isOut_post j1 Rl.df hr ⟨y, β'.getD l 0, rfl, ?_⟩
        have kk : Kf w0 (mix β' s'.m F) (sepL (A' y ++ [R])) w' := by
          have := Rl.k
          rw [j4, e2] at this
          exact this
        have hown : mix β' s'.m F (2 * l) = some (β'.getD l 0, cs' y, ty) := by rw [mix_own, hm]; rfl
        have hodd : ∀ i, mix β' s'.m F (2 * i + 1) = F i := fun i => by
          unfold mix
          rw [if_neg (by omega), show (2 * i + 1) / 2 = i by omega]
        have key : ∀ {i x}, upF F k (β'.getD l 0, cs' y, ty) i = some x → ∃ i', mix β' s'.m F i' = some x ∧ ((i = k ∧ i' = 2 * l) ∨ (i ≠ k ∧ i' = 2 * i + 1)) := fun {i x} hx => by
          unfold upF at hx
          split at hx
          · injection hx with hx
            exact ⟨2 * l, by rw [hown, hx], .inl ⟨by assumption, rfl⟩⟩
          · next c => exact ⟨2 * i + 1, by rw [hodd]; exact hx, .inr ⟨c, rfl⟩⟩
        refine app_sep (Kf.re kk (fun i x hx => (key hx).elim fun i' q => ⟨i', q.1⟩) fun i i' x x' hx hx' q => ?_)
        obtain ⟨i1, a1, a2⟩ := key hx
        obtain ⟨i2, b1, b2⟩ := key hx'
        have := kk.inj _ _ _ _ a1 b1 q
        omega
      · exact (okP_no k1).elim
    · exact (okP_no k1).elim
  · exact (okP_no k1).elim
/-- A call of such a function. -/
def oN (h : Make P f args A ty Y cs' A') (p : Nat) (rest : Y → List (Ora P)) : Ora P :=
  .n Y (.c f (args.map .v)) p A cs' ty A' (fun w0 F R β k w hF K => by
    have ea : ((args.map SV.v).map (SV.den β)).toArray = args.toArray := by
      rw [List.map_map]
      have : (SV.den β) ∘ SV.v = id := by funext x; rfl
      rw [this, List.map_id]
    show Calls P f _ w _
    rw [ea]
    exact (h w0 F R k w hF K).mono fun e w' ⟨y, b, e1, e2⟩ => ⟨_, e1, y, b, rfl, e2⟩) rest
end
end Go.Proofs.YtccbdmccfbjmeaaDoor.Ev
end
section
/- Ends that are told in another form. -/
namespace Go.Proofs.YtccbdmccfbjmeaaDoor.Ev
open Go.RowKit
section
variable {P : Program} {f : FuncId} {args : List Value} {cs : Array Value} {ty : TypeId} {A : Bds} {Y : Type} {v : Y → Value} {cs' : Y → Array Value} {A' : Y → Bds}
def finOE (ty : TypeId) (Y : Type) (v : Y → Value) (cs' : Y → Array Value) (A' : Y → Bds) (R : Bd) (y : Y) (u : Value) (cs : Array Value) (A0 : Bds) (e1 : u = v y) (e2 : cs = cs' y) (e3 : A0 = A' y) : Ora P :=
  .fin (methG ty Y v cs' A' R) u [(cs, ty)] (A0 ++ [R]) ⟨y, e1, by rw [e2], by rw [e3]⟩
theorem ev_methE (r : Bd → ((y : Y) → (u : Value) → (cs : Array Value) → (A0 : Bds) → u = v y → cs = cs' y → A0 = A' y → Ora P) → List (Ora P)) (h : ∀ R β w, (evFn P 1 f (.p 0 0 :: args.map .v) [(cs, ty)] (A ++ [R]) (r R (finOE ty Y v cs' A' R)) (fun rs => finK P 1 rs (methG ty Y v cs' A' R)) β w).1 = (evFn P 1 f (.p 0 0 :: args.map .v) [(cs, ty)] (A ++ [R]) (r R (finOE ty Y v cs' A' R)) (fun rs => finK P 1 rs (methG ty Y v cs' A' R)) β w).2) : Meth P f args cs ty A Y v cs' A' :=
  ev_meth (fun R _ => r R (finOE ty Y v cs' A' R)) h
def finFE (Y : Type) (v : Y → Value) (A' : Y → Bds) (R : Bd) (y : Y) (u : Value) (A0 : Bds) (e1 : u = v y) (e3 : A0 = A' y) : Ora P :=
  .fin (funG Y v A' R) u [] (A0 ++ [R]) ⟨y, e1, rfl, by rw [e3]⟩
theorem ev_funE (r : Bd → ((y : Y) → (u : Value) → (A0 : Bds) → u = v y → A0 = A' y → Ora P) → List (Ora P)) (h : ∀ R β w, (evFn P 0 f (args.map .v) [] (A ++ [R]) (r R (finFE Y v A' R)) (fun rs => finK P 0 rs (funG Y v A' R)) β w).1 = (evFn P 0 f (args.map .v) [] (A ++ [R]) (r R (finFE Y v A' R)) (fun rs => finK P 0 rs (funG Y v A' R)) β w).2) : Fun P f args A Y v A' :=
  ev_fun (fun R _ => r R (finFE Y v A' R)) h
end
end Go.Proofs.YtccbdmccfbjmeaaDoor.Ev
end
namespace Go.Proofs.YtccbdmccfbjmeaaDoor
section
/- Something new is owned. -/
open Go.RowKit
open Ev
/-- Something new is owned. -/
theorem Ev.Kf.fresh {w0 w w' : World} {F : Fm} {A X : Bd} (K : Kf w0 F A w) (hb : Below w.heap.size w w') (hX : X.p w') (hf : ∀ k, X.f k → w.heap.size ≤ k) (hlo : X.lo = 0) : Kf w0 F (X.sep A) w' := by
  have K2 := K.next hb
  have hs := K.below.size
  refine ⟨K2.all, K2.below, K2.new, K2.inj, ⟨hX, K2.a, fun k hk ha => ?_⟩, fun l x h q => ?_, fun k hk => ?_, ?_⟩
  · have := hf k hk
    have := A.lt K.a ha
    omega
  · rcases q with q | q
    · have := hf _ q
      have := (K.all l x h).lt
      omega
    · exact K2.ap l x h q
  · rcases hk with hk | hk
    · have := hf k hk
      omega
    · exact K2.nw k hk
  · show max X.lo A.lo ≤ _
    have := K2.lo
    omega
end
end Go.Proofs.YtccbdmccfbjmeaaDoor
