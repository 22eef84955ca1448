import Derived.Test.YtebnpblincgjlaaDoorG8
import Derived.Test.YtebnpblincgjlaaDoorRows
import Derived.WalkKit
import Derived.WalkSpells
import Derived.WalkLawsBesides
import Derived.IntWalk
import Derived.Lib.Hide
import Derived.Laws.IdiomStrings
import Derived.ChangeKeysEq
import Derived.Shelf.Abstract
import Derived.Laws.StructEq
import Derived.Test.YtebnpblincgjlaaDoorG1
import Derived.Deep.DeepCutAuto
import Derived.Deep.QuietTactic
import Derived.BigQuiet
set_option linter.unusedSimpArgs false
set_option linter.unusedVariables false
section
/- What is told of lists that are owned. -/
namespace Go.Proofs.YtebnpblincgjlaaDoor.Ev
open Go.RowKit

theorem own_fr {α : Type} {enc : α → List Value} {size base : Nat} {F : Nat → Prop} {w w' : World} {e : TypeId} {v : Value} {l : List α} (h : Own w base e size enc v l) (hf : Mv F w w') (hn : ∀ k, v.ownBlock = some k → ¬ F k) : Own w' base e size enc v l := by
  refine ⟨h.1, ?_⟩
  have hlt := h.lt
  rcases h.2 with hn2 | ⟨g, cap, cur, rfl, h2, h3, h4⟩
  · exact .inl hn2
  · exact .inr ⟨g, cap, cur, rfl, h2, (hf.block g (hlt g rfl).2 (hn g rfl)).trans h3, h4⟩
/-- A list that is owned. -/
def bdO {α : Type} (e : TypeId) (size : Nat) (enc : α → List Value) (v : Value) (l : List α) : Bd :=
  ⟨fun W => Own W 0 e size enc v l, fun k => v.ownBlock = some k, 0, fun h q => (h.lt _ q).2, fun h m n _ => own_fr h m (fun k q => n k q)⟩
section
variable {w0 w w' : World} {F : Fm} {A A' R : Bd} {G : Nat → Prop}
theorem Kf.chg (K : Kf w0 F (A.sep R) w) (hm : Mv G w w') (hG : ∀ k, G k → A.f k ∨ w.heap.size ≤ k) (hp : A'.p w') (hf : ∀ k, A'.f k → A.f k ∨ w.heap.size ≤ k) (hlo : A'.lo ≤ A.lo) : Kf w0 F (A'.sep R) w' := by
  have hwl := K.below.size
  have hl : max A.lo R.lo ≤ w0.heap.size := K.lo
  have hge : ∀ k, G k → w0.heap.size ≤ k := fun k hk => (hG k hk).elim (fun q => K.nw k (.inl q)) (fun q => by omega)
  have hR : ∀ k, R.f k → ¬ G k := fun k hk hg => (hG k hg).elim (fun q => K.a.2.2 k q hk) (fun q => by have := R.lt K.a.2.1 hk; omega)
  refine ⟨fun l x h => ?_, ?_, K.new, K.inj, ⟨hp, R.mv K.a.2.1 hm hR (fun k hk => by have := hge k hk; omega), fun k hk hr => ?_⟩, fun l x h hq => ?_, fun k hk => ?_, ?_⟩
  · have hb := K.all l x h
    exact blk_fr hb hm fun hg => (hG _ hg).elim (fun q => K.ap l x h (.inl q)) (fun q => by have := hb.lt; omega)
  · exact ⟨hm.os.trans K.below.os, hm.tape.trans K.below.tape, hm.output.trans K.below.output, Nat.le_trans hwl hm.size, fun k hk => (hm.block k (by omega) (fun hg => by have := hge k hg; omega)).trans (K.below.block k hk)⟩
  · exact (hf k hk).elim (fun q => K.a.2.2 k q hr) (fun q => by have := R.lt K.a.2.1 hr; omega)
  · rcases hq with hq | hq
    · exact (hf _ hq).elim (fun q => K.ap l x h (.inl q)) (fun q => by have := (K.all l x h).lt; omega)
    · exact K.ap l x h (.inr hq)
  · rcases hk with hk | hk
    · exact (hf k hk).elim (fun q => K.nw k (.inl q)) (fun q => by omega)
    · exact K.nw k (.inr hk)
  · show max A'.lo R.lo ≤ _
    omega
theorem mv_grown {r : Option Nat} (h : w.grownBy w' r) : Mv (fun k => r = some k) w w' := ⟨h.os, h.tape, h.output, h.size, fun k hk hn => h.block k hk (fun e => hn e.symm)⟩
end
section
variable {α : Type} {P : Program} {t e : TypeId} {size : Nat} {enc : α → List Value} {w0 w : World} {F : Fm} {R : Bd} {v vx : Value} {l : List α} {g m k : Nat} {x : α}
theorem one_p {A : Bd} {W : World} (h : ((sepL [A]).sep R).p W) : A.p W := h.1.1
theorem Kf.one {A : Bd} (K : Kf w0 F ((sepL [A]).sep R) w) : A.p w := K.a.1.1
/-- The sizes of an element's type; what it is, as a value. -/
structure ElV (P : Program) (t e : TypeId) (size : Nat) (enc : α → List Value) (val : α → Value) : Prop extends ElT P t e size enc where
  el : P.elem t = e
  cells : ∀ x, (val x).cells = (enc x).toArray
  kind : (rowT P e = true ∧ ∀ x, val x = .agg (enc x).toArray) ∨ (plainT (P.underlying e) = true ∧ size = 1 ∧ ∀ x, enc x = [val x])
variable {val : α → Value} (E : ElV P t e size enc val)
theorem ElV.sz (E : ElV P t e size enc val) : (P.info? e).map (·.size) = some size := by
  obtain ⟨i, z, b, h1, h2, h3, h4, h5, h6⟩ := E.info
  rw [h1, ← h3]
  rfl
theorem run_ix (E : ElV P t e size enc val) (n m : Nat) (hk : k < n) (W : World) : (Instr.indexAt t (.slice (some ⟨g, 0, none⟩) n m) (.int .i64 (k : Nat))).run P W = .ok (.pointer (some ⟨g, k * size, none⟩)) W := by
  have hs := E.sz
  rw [run_indexAt_slice (h := by rw [E.el]; exact E.ht), if_pos (by omega), E.el]
  cases c : P.info? e with
  | none => rw [c] at hs; cases hs
  | some i =>
    rw [c] at hs
    have hs : i.size = size := by simpa using hs
    simp [sizeOf, typeInfo, c, Addr.add, hs]
    try omega
theorem run_ld (E : ElV P t e size enc val) (h : Own w 0 e size enc (.slice (some ⟨g, 0, none⟩) l.length m) l) (hx : l[k]? = some x) : (Instr.loadAt e (.pointer (some ⟨g, k * size, none⟩))).run P w = .ok (val x) w := by
  rcases E.kind with ⟨h1, h2⟩ | ⟨h1, h2⟩
  · unfold rowT at h1
    split at h1
    · next d hd =>
      have hr : w.rangeAt g (k * size) (enc x) := fun j u hu => by
        have hj : j < size := by have := (List.getElem?_eq_some_iff.1 hu).1; rw [E.len] at this; exact this
        rw [h.at E.len k j x hx hj]; exact hu
      have e2 := run_loadVar_mid w g (k * size) e (enc x) d hr hd h1 (by rw [E.len]; exact E.sz)
      simp only [Instr.loadAt, Instr.sureAddr, Sem.run_bind, Sem.run_pure, Result.andThen_ok, e2, h2]
    · cases h1
  · have hc := h.at E.len k 0 x hx (by omega)
    rw [h2.2 x] at hc
    exact run_loadAt_cell h1 hc
theorem run_st (E : ElV P t e size enc val) (h : Own w 0 e size enc (.slice (some ⟨g, 0, none⟩) l.length m) l) (hk : k < l.length) (x : α) : (Instr.storeAt e (.pointer (some ⟨g, k * size, none⟩)) (val x)).run P w = .ok () (w.setCells g (k * size) (enc x)) := by
  have hc := E.cells x
  have hl : (val x).cells.size = size := by rw [hc]; simp [E.len]
  have e2 := run_storeVar_any (P := P) w g (k * size) e (val x) (by rw [hl]; exact h.there E.len k hk) (by rw [hl]; exact E.sz) (by rw [hc]; simp only [Array.all_eq_true_iff_forall_mem]; intro u hu; exact E.one x u (by simpa using hu))
  simp only [Instr.storeAt, Instr.sureAddr, Sem.run_bind, Sem.run_pure, Result.andThen_ok, e2, hc]
/-- A place in a list. -/
def oIx (E : ElV P t e size enc val) (g n m : Nat) {k : Nat} (hk : k < n) : Ora P :=
  .x true (.s fun _ => do pure (.value (← Instr.indexAt t (.slice (some ⟨g, 0, none⟩) n m) (.int .i64 (k : Nat))))) 0 [] [] (.pointer (some ⟨g, k * size, none⟩))
    (fun w0 F R β w K => by
      show stepS P _ _ w
      unfold stepS
      simp only [Sem.run_bind, Sem.run_pure, Result.andThen_ok, run_ix E n m hk w]
      exact ⟨trivial, K⟩)
/-- An element of a list is read. -/
def oLd (E : ElV P t e size enc val) (p : Nat) (g n m : Nat) {l : List α} {k : Nat} {x : α} (hx : l[k]? = some x) (hn : l.length = n) : Ora P :=
  .x true (.s fun _ => do pure (.value (← Instr.loadAt e (.pointer (some ⟨g, k * size, none⟩))))) p [bdO e size enc (.slice (some ⟨g, 0, none⟩) n m) l] [bdO e size enc (.slice (some ⟨g, 0, none⟩) n m) l] (val x)
    (fun w0 F R β w K => by
      subst hn
      show stepS P _ _ w
      unfold stepS
      have h : Own w 0 e size enc (.slice (some ⟨g, 0, none⟩) l.length m) l := K.one
      simp only [Sem.run_bind, Sem.run_pure, Result.andThen_ok, run_ld E h hx]
      exact ⟨trivial, K⟩)
/-- An element of a list is set. -/
def oSt (E : ElV P t e size enc val) (p : Nat) (g n m : Nat) {l l2 : List α} {k : Nat} (x : α) (hk : k < n) (hn : l.length = n) (h2 : l.set k x = l2) : Ora P :=
  .x false (.s fun _ => do (Instr.storeAt e (.pointer (some ⟨g, k * size, none⟩)) (val x)); pure .skip) p [bdO e size enc (.slice (some ⟨g, 0, none⟩) n m) l] [bdO e size enc (.slice (some ⟨g, 0, none⟩) n m) l2] undef
    (fun w0 F R β w K => by
      subst hn
      subst h2
      show stepS P _ _ w
      unfold stepS
      have h : Own w 0 e size enc (.slice (some ⟨g, 0, none⟩) l.length m) l := K.one
      simp only [Sem.run_bind, Sem.run_pure, Result.andThen_ok, run_st E h hk x]
      obtain ⟨h1, h2⟩ := h.store E.len k x hk
      refine ⟨trivial, ?_⟩
      refine Kf.chg (A' := sepL [bdO e size enc (.slice (some ⟨g, 0, none⟩) l.length m) (l.set k x)]) K (mv_grown h2) (fun j hj => .inl (.inl hj)) ⟨h1, trivial, fun _ _ h => h⟩ (fun j hj => .inl hj) (Nat.le_refl _))
theorem own_shape (h : Own w 0 e size enc v l) : ∃ a c, v = .slice a l.length c := by
  rcases h.cases with ⟨h1, h2⟩ | ⟨g, c, h1, -⟩
  · exact ⟨none, 0, by rw [h1, h2]; rfl⟩
  · exact ⟨_, c, h1⟩
/-- A slice that is made beside is put behind a list. -/
def oAp (E : ElV P t e size enc val) (ty : TypeId) (p : Nat) (lb : Nat) (cs : Array Bool) (v : Value) (l news : List α) (N : Nat) (hN : l.length + news.length = N) (hl : N ≤ 2000) (rest : Option Addr × Nat → List (Ora P)) : Ora P :=
  .e (Option Addr × Nat) (none, 0) (.s fun β => builtin .append #[t, t] ty cs #[v, .slice (some ⟨β.getD lb 0, 0, none⟩) news.length news.length]) [(lb, (cellsL enc news).toArray, e)] p [bdO e size enc v l] (fun y => [bdO e size enc (.slice y.1 N y.2) (l ++ news)]) (fun y => .slice y.1 N y.2)
    (fun w0 F R β w hlo K => by
      show stepS P _ _ w
      unfold stepS
      have h : Own w 0 e size enc v l := K.one
      obtain ⟨k, hk⟩ := hlo (lb, (cellsL enc news).toArray, e) List.mem_cons_self
      have hb := K.all k _ hk
      have hs : Src w enc (.slice (some ⟨β.getD lb 0, 0, none⟩) news.length news.length) news := .inr ⟨_, _, rfl, fun j u hu => by
        rw [show (⟨β.getD lb 0, 0, none⟩ : Addr).add j = ⟨β.getD lb 0, j, none⟩ by simp [Addr.add]; try omega]
        have := hb.cell j
        rw [this]
        simpa using hu⟩
      obtain ⟨v', w', h1, h2, h3, h4⟩ := E.toElT.app h hs (by omega) (Nat.zero_le _) ty
      obtain ⟨a, c, hv⟩ := own_shape h2
      rw [List.length_append, hN] at hv
      simp only [builtin, Sem.run_bind, Sem.run_pure, Result.andThen_ok, h1]
      refine ⟨(a, c), hv, ?_⟩
      rw [hv] at h2 h4
      refine Kf.chg (A' := sepL [bdO e size enc (.slice a N c) (l ++ news)]) K (mv_grown h3) (fun j hj => .inl (.inl hj)) ⟨h2, trivial, fun _ _ h => h⟩ (fun j hj => ?_) (Nat.le_refl _)
      rcases hj with hj | hj
      · have hj : (Value.slice a N c).ownBlock = some j := hj
        rcases h4 with q | q
        · exact .inl (.inl (q.symm.trans hj))
        · right
          rw [q] at hj
          injection hj with hj
          omega
      · exact (hj : False).elim) rest
/-- Nothing is owned at first. -/
theorem nil_own (e : TypeId) (size : Nat) (enc : α → List Value) (A : Bds) : ∀ w0 F R w, Kf w0 F ((sepL A).sep R) w → Kf w0 F ((sepL (bdO e size enc (.slice none 0 0) [] :: A)).sep R) w := fun w0 F R w K =>
  Kf.iff K (fun h => ⟨⟨Own.nil _ _ _ _ _, h.1, fun k hk => by cases hk⟩, h.2.1, fun k hk => hk.elim (fun q => by cases q) (h.2.2 k)⟩) (fun k hk => hk.elim (fun q => q.elim (fun q => by cases q) .inl) .inr) (by
    show max (max 0 (sepL A).lo) R.lo ≤ max (sepL A).lo R.lo
    omega)
end
end Go.Proofs.YtebnpblincgjlaaDoor.Ev
end
section
/- What is told of methods. -/
namespace Go.Proofs.YtebnpblincgjlaaDoor.Ev
open Go.RowKit

/-- A method: what it answers, what becomes of its block, and of what is owned. -/
def Meth (P : Program) (f : FuncId) (args : List Value) (cs : Array Value) (ty : TypeId) (A : Bds) (Y : Type) (v : Y → Value) (cs' : Y → Array Value) (A' : Y → Bds) : Prop :=
  ∀ w0 (F : Fm) (R : Bd) (k b : Nat) w, F k = some (b, cs, ty) → Kf w0 F ((sepL A).sep R) w →
    Calls P f (Value.pointer (some ⟨b, 0, none⟩) :: args).toArray w fun e w' => ∃ y, e = .returned (v y) ∧ Kf w0 (upF F k (b, cs' y, ty)) ((sepL (A' y)).sep R) w'
section
variable {P : Program} {f : FuncId} {args : List Value} {cs : Array Value} {ty : TypeId} {A : Bds} {Y : Type} {v : Y → Value} {cs' : Y → Array Value} {A' : Y → Bds}
theorem sep_app {w0 w : World} {F : Fm} {A : Bds} {R : Bd} (K : Kf w0 F ((sepL A).sep R) w) : Kf w0 F (sepL (A ++ [R])) w := by
  have e : A ++ [R] = [] ++ (A ++ [R]) := rfl
  rw [e]
  refine Kf.ofMid (Kf.iff K (fun h => ⟨h.1, ⟨h.2.1, trivial, fun _ _ h => h⟩, fun k hk hn => h.2.2 k hk (hn.elim id fun h => (h : False).elim)⟩) (fun k hk => hk.elim .inl fun h => h.elim .inr fun h => (h : False).elim) ?_)
  show max (sepL A).lo (max R.lo 0) ≤ max (sepL A).lo R.lo
  omega
theorem app_sep {w0 w : World} {F : Fm} {A : Bds} {R : Bd} (K : Kf w0 F (sepL (A ++ [R])) w) : Kf w0 F ((sepL A).sep R) w := by
  have e : A ++ [R] = [] ++ (A ++ [R]) := rfl
  rw [e] at K
  refine Kf.iff (Kf.toMid K) (fun h => ⟨h.1, h.2.1.1, fun k hk hn => h.2.2 k hk (.inl hn)⟩) (fun k hk => hk.elim .inl fun h => .inr (.inl h)) ?_
  show max (sepL A).lo R.lo ≤ max (sepL A).lo (max R.lo 0)
  omega
def methG (ty : TypeId) (Y : Type) (v : Y → Value) (cs' : Y → Array Value) (A' : Y → Bds) (R : Bd) : Goal := fun u m A => ∃ y, u = v y ∧ m = [(cs' y, ty)] ∧ A = A' y ++ [R]
def finO (ty : TypeId) (Y : Type) (v : Y → Value) (cs' : Y → Array Value) (A' : Y → Bds) (R : Bd) (y : Y) : Ora P := .fin (methG ty Y v cs' A' R) (v y) [(cs' y, ty)] (A' y ++ [R]) ⟨y, rfl, rfl, rfl⟩
theorem ev_meth (r : Bd → (Y → Ora P) → List (Ora P)) (h : ∀ R β w, (evFn P 1 f (.p 0 0 :: args.map .v) [(cs, ty)] (A ++ [R]) (r R (finO ty Y v cs' A' R)) (fun rs => finK P 1 rs (methG ty Y v cs' A' R)) β w).1 = (evFn P 1 f (.p 0 0 :: args.map .v) [(cs, ty)] (A ++ [R]) (r R (finO ty Y v cs' A' R)) (fun rs => finK P 1 rs (methG ty Y v cs' A' R)) β w).2) : Meth P f args cs ty A Y v cs' A' := by
  intro w0 F R k b w hF K
  have K1 : Kv w0 (fun j => if j = k then none else F j) [b] [(cs, ty)] (A ++ [R]) w := by
    refine Kf.re (sep_app K) (fun l x hx => ?_) (fun l l' x x' hx hx' e => ?_)
    · unfold mix at hx
      split at hx
      · by_cases c : l / 2 = 0
        · rw [c] at hx
          injection hx with hx
          exact ⟨k, by rw [← hx]; exact hF⟩
        · rw [List.getElem?_eq_none (by simp; omega)] at hx; cases hx
      · dsimp only at hx
        split at hx
        · cases hx
        · exact ⟨_, hx⟩
    · have key : ∀ l x, mix [b] [(cs, ty)] (fun j => if j = k then none else F j) l = some x → (l = 0 ∧ F k = some x) ∨ (l % 2 = 1 ∧ l / 2 ≠ k ∧ F (l / 2) = some x) := fun l x hx => by
        unfold mix at hx
        split at hx
        · by_cases c : l / 2 = 0
          · rw [c] at hx
            injection hx with hx
            exact .inl ⟨by omega, by rw [← hx]; exact hF⟩
          · rw [List.getElem?_eq_none (by simp; omega)] at hx; cases hx
        · dsimp only at hx
          split at hx
          · cases hx
          · exact .inr ⟨by omega, by assumption, hx⟩
      rcases key l x hx with ⟨h1, h2⟩ | ⟨h1, h2, h3⟩ <;> rcases key l' x' hx' with ⟨j1, j2⟩ | ⟨j1, j2, j3⟩
      · omega
      · exact absurd (K.inj _ _ _ _ h2 j3 e).symm j2
      · exact absurd (K.inj _ _ _ _ h3 j2 e) h2
      · have := K.inj _ _ _ _ h3 j3 e
        omega
  have q := ev_fn (P := P) (q := 1) (f := f) (.p 0 0 :: args.map .v) [(cs, ty)] (A ++ [R]) (methG ty Y v cs' A' R) (r R _) (h R) (Nat.le_refl _) w0 _ [b] w rfl K1
  have ea : ((SV.p 0 0 :: args.map SV.v).map (SV.den [b])).toArray = (Value.pointer (some ⟨b, 0, none⟩) :: args).toArray := by
    rw [List.map_cons, List.map_map]
    have : (SV.den [b]) ∘ SV.v = id := by funext x; rfl
    rw [this, List.map_id]
    rfl
  rw [← ea]
  refine q.mono fun e w' ⟨u, m', A2, β', e1, ⟨y, e2, e3, e4⟩, ht, hl, K2⟩ => ⟨y, by rw [e1, e2], ?_⟩
  subst e3 e4
  have hb : β'.getD 0 0 = b := by
    cases β' with
    | nil => cases hl
    | cons x xs => simp at ht; rw [ht]; rfl
  refine app_sep (Kf.re K2 (fun l x hx => ?_) (fun l l' x x' hx hx' e => ?_))
  · unfold upF at hx
    split at hx
    · injection hx with hx
      refine ⟨0, ?_⟩
      unfold mix
      rw [if_pos rfl]
      show some (β'.getD 0 0, cs' y, ty) = _
      rw [hb, hx]
    · next c =>
      refine ⟨2 * l + 1, ?_⟩
      unfold mix
      rw [if_neg (by omega), show (2 * l + 1) / 2 = l by omega]
      rw [show (fun j => if j = k then none else F j) l = F l from if_neg c]
      exact hx
  · have key : ∀ l x, upF F k (b, cs' y, ty) l = some x → ∃ l2, mix β' [(cs' y, ty)] (fun j => if j = k then none else F j) l2 = some x ∧ (l2 = 0 ∧ l = k ∨ l2 = 2 * l + 1) := fun l x hx => by
      unfold upF at hx
      split at hx
      · next c =>
        injection hx with hx
        refine ⟨0, ?_, .inl ⟨rfl, c⟩⟩
        unfold mix
        rw [if_pos rfl]
        show some (β'.getD 0 0, cs' y, ty) = _
        rw [hb, hx]
      · next c =>
        refine ⟨2 * l + 1, ?_, .inr rfl⟩
        unfold mix
        rw [if_neg (by omega), show (2 * l + 1) / 2 = l by omega]
        rw [show (fun j => if j = k then none else F j) l = F l from if_neg c]
        exact hx
    obtain ⟨l2, h1, h2⟩ := key l x hx
    obtain ⟨l3, j1, j2⟩ := key l' x' hx'
    have := Kf.inj K2 _ _ _ _ h1 j1 e
    omega
/-- A method is called with the l-th block. -/
def oM (h : Meth P f args cs ty A Y v cs' A') (l p : Nat) (rest : Y → List (Ora P)) : Ora P :=
  .h Y (.c f (.p l 0 :: args.map .v)) l cs ty p A cs' A' v (fun w0 F R β k w hF K => by
    have ea : ((SV.p l 0 :: args.map SV.v).map (SV.den β)).toArray = (Value.pointer (some ⟨β.getD l 0, 0, none⟩) :: args).toArray := by
      rw [List.map_cons, List.map_map]
      have : (SV.den β) ∘ SV.v = id := by funext x; rfl
      rw [this, List.map_id]
      rfl
    show Calls P f _ w _
    rw [ea]
    exact (h w0 F R k _ w hF K).mono fun e w' ⟨y, e1, e2⟩ => ⟨v y, e1, y, rfl, e2⟩) rest
/-- What is owned tells something. -/
theorem TP_use {q : Nat} {c : Code} {s : St} {G : Exit → St → Prop} {φ : Prop} (h1 : ∀ w, (sepL s.A).p w → φ) (h2 : φ → TP P q c s G) : TP P q c s G :=
  fun w0 F β a w R => h2 (h1 w (Kf.a R.k)) w0 F β a w R
theorem own_ptr {α : Type} {e : TypeId} {size : Nat} {enc : α → List Value} {w : World} {a : Option Addr} {n m k : Nat} {l : List α} (h : Own w 0 e size enc (.slice a n m) l) (hk : k < l.length) : ∃ g, a = some ⟨g, 0, none⟩ := by
  rcases h.cases with ⟨_, h2⟩ | ⟨g, cap, h2, -⟩
  · rw [h2] at hk; cases hk
  · injection h2 with h2; exact ⟨g, h2⟩
end
end Go.Proofs.YtebnpblincgjlaaDoor.Ev
end
section
namespace Go.Proofs.YtebnpblincgjlaaDoor.Nums
def good (a n : Int) : Prop := 0 ≤ a ∧ a ≤ 63 ∧ 1 ≤ n ∧ n ≤ 64 - a
instance (a n : Int) : Decidable (good a n) := by unfold good; infer_instance
end Go.Proofs.YtebnpblincgjlaaDoor.Nums
end
namespace Go.Proofs.YtebnpblincgjlaaDoor
section
open Go.RowKit
end
section
open Go.RowKit
def Has (w : World) (g : Nat) (l : List Value) : Prop := ∀ j (hj : j < l.length), w.cell? ⟨g, j, none⟩ = some l[j] ∧ w.frozen? ⟨g, j, none⟩ = false
theorem Has.set {w : World} {g : Nat} {l : List Value} (h : Has w g l) (j : Nat) (u : Value) : Has (w.setCell ⟨g, j, none⟩ u) g (l.set j u) := by
 intro i hi
 have hi' : i < l.length := by simpa using hi
 obtain ⟨h1, h2⟩ := h i hi'
 refine ⟨?_, by simpa using h2⟩
 by_cases c : j = i
 ·
  subst c
  rw [World.cell?_setCell_same (w := w) (h := h1)]
  simp
 ·
  rw [World.cell?_setCell_other (w := w) (h := by simp only [ne_eq, Addr.mk.injEq, true_and, and_true]; omega), h1]
  simp [c]
theorem Has.other {w : World} {g : Nat} {l : List Value} (h : Has w g l) {a : Addr} (ha : a.block ≠ g) (u : Value) : Has (w.setCell a u) g l := by
 intro i hi
 obtain ⟨h1, h2⟩ := h i hi
 refine ⟨?_, by simpa using h2⟩
 rw [World.cell?_setCell_other (w := w) (h := by intro e; apply ha; rw [e]), h1]
theorem Has.below {w w' : World} {B g : Nat} {l : List Value} (h : Has w g l) (hb : Below B w w') (hg : g < B) : Has w' g l := by
 intro i hi
 obtain ⟨h1, h2⟩ := h i hi
 exact ⟨by rw [hb.cell (p := ⟨g, i, none⟩) hg, h1], by rw [hb.frozen (p := ⟨g, i, none⟩) hg, h2]⟩
theorem Has.drew {w : World} {g : Nat} {l : List Value} (h : Has w g l) : Has w.drew g l := fun j hj => by
 simpa using h j hj
theorem Has.cellAt {w : World} {g : Nat} {l : List Value} (h : Has w g l) (j : Nat) (hj : j < l.length) : w.cell? ⟨g, j, none⟩ = some l[j] := (h j hj).1
def bv (b : UInt8) : Value := .int .u8 (b.toNat : Int)
theorem Has.text {P : Program} {w : World} {g cap : Nat} {l : List UInt8} (h : Has w g (l.map bv)) (src dst e : TypeId) (hs : P.underlying src = some (.slice e)) (he : P.underlying e = some (.int .u8)) (hd : P.underlying dst = some .string) (n : Nat) (hn : n = l.length) :
 (convert src dst (.slice (some ⟨g, 0, none⟩) n cap)).run P w = .ok (.string ⟨l.toArray⟩) w := by
 subst hn
 refine run_convert_bytes_back w src dst e ⟨g, 0, none⟩ cap l hs he hd ?_
 intro j hj
 have := (h j (by simpa using hj)).1
 have e : (⟨g, 0, none⟩ : Addr).add j = ⟨g, j, none⟩ := by cases j <;> simp [Addr.add]
 rw [e, this]
 simp [bv]
theorem Has.lt {w : World} {g : Nat} {l : List Value} (h : Has w g l) (hl : 0 < l.length) : g < w.heap.size := by
 have h0 := (h 0 hl).1
 rcases Nat.lt_or_ge g w.heap.size with c | c
 ·
  exact c
 ·
  simp [World.cell?, Array.getElem?_eq_none c] at h0
theorem grown_trans {a b c : World} {r : Option Nat} (h : a.grownBy b r) (k : b.grownBy c r) : a.grownBy c r :=
 ⟨k.os.trans h.os, k.tape.trans h.tape, k.output.trans h.output, Nat.le_trans h.size k.size, fun i hi hr => (k.block i (Nat.lt_of_lt_of_le hi h.size) hr).trans (h.block i hi hr)⟩
theorem Below.grownBy {a b : World} (h : Below a.heap.size a b) (r : Option Nat) : a.grownBy b r :=
 ⟨h.os, h.tape, h.output, h.size, fun i hi _ => h.block i hi⟩
theorem Has.grown {w w' : World} {g : Nat} {l : List Value} {r : Option Nat} (h : Has w g l) (hg : w.grownBy w' r) (hr : some g ≠ r) : Has w' g l := by
 intro i hi
 obtain ⟨h1, h2⟩ := h i hi
 have hl := h.lt (by omega)
 have hb := hg.block g hl hr
 exact ⟨by rw [World.cell?_of_block (w := w) (a := ⟨g, i, none⟩) hb, h1], by rw [World.frozen?_of_block (w := w) (a := ⟨g, i, none⟩) hb, h2]⟩
end
section
open Go.RowKit
end
section
open Go.RowKit
theorem div_one (y : Nat) (m : Nat) : y % 2 ^ (m + 1) = 2 * (y / 2 % 2 ^ m) + y % 2 := by
 rw [Nat.pow_succ, Nat.mul_comm, Nat.mod_mul]
 omega
end
section
open Go.RowKit
end
section
open Go.RowKit
def Six (m : Nat → Nat) : Prop := m 0 < 256 ∧ m 1 < 256 ∧ m 2 < 256 ∧ m 3 < 256 ∧ m 4 < 256 ∧ m 5 < 256
theorem Six.at {m : Nat → Nat} (h : Six m) (k : Nat) (hk : k < 6) : m k < 256 := by
 obtain ⟨h0, h1, h2, h3, h4, h5⟩ := h
 match k, hk with
 | 0, _ => exact h0
 | 1, _ => exact h1
 | 2, _ => exact h2
 | 3, _ => exact h3
 | 4, _ => exact h4
 | 5, _ => exact h5
end
section
open Go.RowKit
end
section
open Go.RowKit
theorem run_loadRange {P : Program} {o : Oper} {a : Act} {w : World} (ty : TypeId) (x : Operand) (ho : o.op = .load ty x) (g j : Nat) (hx : a.eval x = .pointer (some ⟨g, j, none⟩)) (arr : Array Value) (d : TypeDesc) (hr : w.rangeAt g j arr.toList)
 (hu : P.underlying ty = some d) (hd : d.isRow = true) (hi : (P.info? ty).map (·.size) = some arr.size) : (execOp a.eval o).run P w = .ok (.value (.agg arr)) w := by
 unfold execOp
 simp only [ho, hx, Instr.loadAt, Instr.sureAddr, Sem.run_bind, Sem.run_pure, Result.andThen_ok, run_loadVar_mid w g j ty arr.toList d hr hu hd (by simpa using hi), Array.toArray_toList]
end
section
open Go.RowKit
structure Po where
 p0 : Int
 p1 : Int
 p2 : Bool
 p3 : Int
 p4 : Int
 p5 : Bool
 p6 : Bool
 p7 : Bool
 p8 : Bool
 p9 : Bool
 p10 : Int
 p11 : Int
 p12 : Int
 p13 : Int
 p14 : Int
 p15 : Int
 p16 : Int
 p17 : Int
 p18 : Int
 p19 : Int
 p20 : Int
def poA (x : Po) : Array Value := #[.int .u16 x.p0, .int .i64 x.p1, .bool x.p2, .int .u32 x.p3, .int .i64 x.p4, .bool x.p5, .bool x.p6, .bool x.p7, .bool x.p8, .bool x.p9, .int .i64 x.p10, .int .i64 x.p11, .int .i64 x.p12, .int .u64 x.p13, .int .u32 x.p14, .int .u64 x.p15, .int .u16 x.p16, .int .i64 x.p17, .int .i64 x.p18, .int .i64 x.p19, .int .i64 x.p20]
abbrev poV (x : Po) : Value := .agg (poA x)
def poC (x : Po) : List Value := (poA x).toList
theorem po_len (x : Po) : (poC x).length = 21 := rfl
theorem po_all (x : Po) : (poA x).all (·.oneCell') = true := by simp [poA, Value.oneCell']
theorem po_one (x : Po) : ∀ u ∈ poC x, u.oneCell' = true := by
 have := po_all x
 rw [Array.all_eq_true'] at this
 intro u hu
 exact this u (by simpa [poC] using hu)
theorem size50 : (Tryd.prog.info? 73).map (·.size) = some 21 := by kernel_rfl
theorem po_info (x : Po) : (Tryd.prog.info? 73).map (·.size) = some (poA x).size := size50
theorem info50' : ∃ i z b, Tryd.prog.info? 73 = some i ∧ i.zero = some z ∧ i.size = 21 ∧ i.bytes = b ∧ z.cells.size = 21 ∧ b ≤ 1000 := by
 obtain ⟨i, h1, h3, h4, h5⟩ := info_parts (show (Tryd.prog.info? 73).map (fun i => (i.zero, i.size, i.bytes)) = some (some (.agg #[.int .u16 0, .int .i64 0, .bool false, .int .u32 0, .int .i64 0, .bool false, .bool false, .bool false, .bool false, .bool false, .int .i64 0, .int .i64 0, .int .i64 0, .int .u64 0, .int .u32 0, .int .u64 0, .int .u16 0, .int .i64 0, .int .i64 0, .int .i64 0, .int .i64 0]), 21, 136) by kernel_rfl)
 exact ⟨i, _, _, h1, h3, h4, h5, rfl, by decide⟩
theorem poT : ElT Tryd.prog 32 73 21 poC := ⟨Tryd.underlying32, info50', by decide, po_len, po_one⟩
theorem equal_48 (a0 b0 : Int) (a1 b1 : Int) (a2 b2 : Int) (a3 b3 : Int) (w : World) : (Op.equalIn 9999 71 (.agg #[.int .u64 a0, .int .u32 a1, .int .u64 a2, .int .u16 a3]) (.agg #[.int .u64 b0, .int .u32 b1, .int .u64 b2, .int .u16 b3])).run Tryd.prog w = .ok (decide (a0 = b0) && decide (a1 = b1) && decide (a2 = b2) && decide (a3 = b3)) w := by
 have hS : Tryd.prog.underlying 71 = some (.struct (Tryd.prog.fieldsOf 71)) := by kernel_rfl
 have hp : Tryd.prog.stoodInHeld 71 = false := by kernel_rfl
 rw [show (9999 : Nat) = 9998 + 1 from rfl, run_equalIn_agg w 9998 71 _ _ hS hp]
 simp only [Program.fieldsOf, Tryd.underlying71]
 have u22 := Tryd.underlying28
 have u27 := Tryd.underlying36
 have u32 := Tryd.underlying29
 have u44 := Tryd.underlying59
 have u52 := Tryd.underlying96
 go_simp
 by_cases h0 : a0 = b0
 ·
  subst h0
  by_cases h1 : a1 = b1
  ·
   subst h1
   by_cases h2 : a2 = b2
   ·
    subst h2
    by_cases h3 : a3 = b3
    ·
     subst h3
     simp
    ·
     simp [h3]
   ·
    simp [h2]
  ·
   simp [h1]
 ·
  simp [h0]
structure Vr where
 p0 : Int
 p1 : Int
 p2 : Int
def vrA (x : Vr) : Array Value := #[.int .u16 x.p0, .int .u32 x.p1, .int .u32 x.p2]
def vrC (x : Vr) : List Value := (vrA x).toList
theorem vr_len (x : Vr) : (vrC x).length = 3 := rfl
theorem vr_all (x : Vr) : (vrA x).all (·.oneCell') = true := by simp [vrA, Value.oneCell']
theorem vr_one (x : Vr) : ∀ u ∈ vrC x, u.oneCell' = true := by
 have := vr_all x
 rw [Array.all_eq_true'] at this
 intro u hu
 exact this u (by simpa [vrC] using hu)
theorem info54' : ∃ i z b, Tryd.prog.info? 98 = some i ∧ i.zero = some z ∧ i.size = 3 ∧ i.bytes = b ∧ z.cells.size = 3 ∧ b ≤ 1000 := by
 obtain ⟨i, h1, h3, h4, h5⟩ := info_parts (show (Tryd.prog.info? 98).map (fun i => (i.zero, i.size, i.bytes)) = some (some (.agg #[.int .u16 0, .int .u32 0, .int .u32 0]), 3, 12) by kernel_rfl)
 exact ⟨i, _, _, h1, h3, h4, h5, rfl, by decide⟩
theorem vrT : ElT Tryd.prog 33 98 3 vrC := ⟨Tryd.underlying33, info54', by decide, vr_len, vr_one⟩
structure Sr where
 p0 : Int
 p1 : Int
 p2 : Int
 p3 : Int
 p4 : Int
 p5 : Int
 p6 : Int
 p7 : Int
def srA (x : Sr) : Array Value := #[.int .u16 x.p0, .int .u8 x.p1, .int .u8 x.p2, .int .u8 x.p3, .int .u8 x.p4, .int .u8 x.p5, .int .u8 x.p6, .int .u32 x.p7]
def srC (x : Sr) : List Value := (srA x).toList
theorem sr_len (x : Sr) : (srC x).length = 8 := rfl
theorem sr_all (x : Sr) : (srA x).all (·.oneCell') = true := by simp [srA, Value.oneCell']
theorem sr_one (x : Sr) : ∀ u ∈ srC x, u.oneCell' = true := by
 have := sr_all x
 rw [Array.all_eq_true'] at this
 intro u hu
 exact this u (by simpa [srC] using hu)
theorem info60' : ∃ i z b, Tryd.prog.info? 105 = some i ∧ i.zero = some z ∧ i.size = 8 ∧ i.bytes = b ∧ z.cells.size = 8 ∧ b ≤ 1000 := by
 obtain ⟨i, h1, h3, h4, h5⟩ := info_parts (show (Tryd.prog.info? 105).map (fun i => (i.zero, i.size, i.bytes)) = some (some (.agg #[.int .u16 0, .int .u8 0, .int .u8 0, .int .u8 0, .int .u8 0, .int .u8 0, .int .u8 0, .int .u32 0]), 8, 12) by kernel_rfl)
 exact ⟨i, _, _, h1, h3, h4, h5, rfl, by decide⟩
theorem srT : ElT Tryd.prog 34 105 8 srC := ⟨Tryd.underlying34, info60', by decide, sr_len, sr_one⟩
structure Fr where
 p0 : Int
 p1 : Int
 p2 : Int
 p3 : Int
 p4 : Int
 p5 : Int
 p6 : Int
 p7 : Int
 p8 : Int
def frA (x : Fr) : Array Value := #[.int .u16 x.p0, .int .u8 x.p1, .int .u8 x.p2, .int .u8 x.p3, .int .u8 x.p4, .int .u8 x.p5, .int .u8 x.p6, .int .i64 x.p7, .int .i64 x.p8]
def frC (x : Fr) : List Value := (frA x).toList
theorem fr_len (x : Fr) : (frC x).length = 9 := rfl
theorem fr_all (x : Fr) : (frA x).all (·.oneCell') = true := by simp [frA, Value.oneCell']
theorem fr_one (x : Fr) : ∀ u ∈ frC x, u.oneCell' = true := by
 have := fr_all x
 rw [Array.all_eq_true'] at this
 intro u hu
 exact this u (by simpa [frC] using hu)
theorem info64' : ∃ i z b, Tryd.prog.info? 108 = some i ∧ i.zero = some z ∧ i.size = 9 ∧ i.bytes = b ∧ z.cells.size = 9 ∧ b ≤ 1000 := by
 obtain ⟨i, h1, h3, h4, h5⟩ := info_parts (show (Tryd.prog.info? 108).map (fun i => (i.zero, i.size, i.bytes)) = some (some (.agg #[.int .u16 0, .int .u8 0, .int .u8 0, .int .u8 0, .int .u8 0, .int .u8 0, .int .u8 0, .int .i64 0, .int .i64 0]), 9, 24) by kernel_rfl)
 exact ⟨i, _, _, h1, h3, h4, h5, rfl, by decide⟩
theorem frT : ElT Tryd.prog 35 108 9 frC := ⟨Tryd.underlying35, info64', by decide, fr_len, fr_one⟩
structure Cf where
 p0 : Int
 p1 : Int
 p2 : Int
 p3 : Int
 p4 : Int
 p5 : Int
def cfA (x : Cf) : Array Value := #[.int .u64 x.p0, .int .i64 x.p1, .int .i64 x.p2, .int .i64 x.p3, .int .i64 x.p4, .int .i64 x.p5]
abbrev cfV (x : Cf) : Value := .agg (cfA x)
def cfC (x : Cf) : List Value := (cfA x).toList
theorem cf_all (x : Cf) : (cfA x).all (·.oneCell') = true := by simp [cfA, Value.oneCell']
theorem cf_one (x : Cf) : ∀ u ∈ cfC x, u.oneCell' = true := by
 have := cf_all x
 rw [Array.all_eq_true'] at this
 intro u hu
 exact this u (by simpa [cfC] using hu)
theorem size34 : (Tryd.prog.info? 31).map (·.size) = some 6 := by kernel_rfl
theorem cf_info (x : Cf) : (Tryd.prog.info? 31).map (·.size) = some (cfA x).size := size34
structure Pp where
 p0 : Int
 p1 : Int
 p2 : Int
 p3 : Int
 p4 : Int
 p5 : Int
 p6 : Int
 p7 : Int
 p8 : Int
 p9 : Int
 p10 : Bool
 p11 : Bool
 p12 : Bool
 p13 : Bool
 p14 : Bool
 p15 : Bool
 p16 : Int
 p17 : Int
 p18 : Int
 p19 : Int
 p20 : Int
end
section
open Go.RowKit
theorem ret_bool {a b : Bool} (h : a = b) : Ending.returned (.bool a) = .returned (.bool b) := by rw [h]
structure Vc where
 r : Nat
 c : Nat
 b : Nat
 p : Nat
def Vc.ok (x : Vc) : Prop := x.r < 18446744073709551616 ∧ x.c < 4294967296 ∧ x.b < 18446744073709551616 ∧ x.p < 65536
abbrev vcA (x : Vc) : Array Value := #[.int .u64 (x.r : Nat), .int .u32 (x.c : Nat), .int .u64 (x.b : Nat), .int .u16 (x.p : Nat)]
abbrev vcV (x : Vc) : Value := .agg (vcA x)
abbrev nil4 : Array Value := #[.int .u64 0, .int .u32 0, .int .u64 0, .int .u16 0]
def lessV (x y : Vc) : Bool := if x.r = y.r then (if x.c = y.c then (if x.b = y.b then decide (x.p < y.p) else decide (x.b < y.b)) else decide (x.c < y.c)) else decide (x.r < y.r)
def plusV (x : Vc) (k : Nat) : Vc := { x with c := if 4294967295 < x.c + k then 4294967295 else x.c + k }
theorem plusV_ok {x : Vc} (h : x.ok) (k : Nat) : (plusV x k).ok := by
 obtain ⟨h1, h2, h3, h4⟩ := h
 refine ⟨h1, ?_, h3, h4⟩
 show (if 4294967295 < x.c + k then 4294967295 else x.c + k) < _
 split <;> omega
theorem sizeV : (Tryd.prog.info? 71).map (·.size) = some 4 := by kernel_rfl
theorem vcA_one (x : Vc) : (vcA x).all (·.oneCell') = true := by simp [Value.oneCell']
set_option maxHeartbeats 1000000 in
theorem better_any (x y : Vc) (w : World) : Calls Tryd.prog 70 #[vcV x, vcV y] w fun e w' => e = .returned (.bool (lessV x y)) ∧ Below w.heap.size w w' := by
 have hb := ((Below.refl w.heap.size w).alloc (Nat.le_refl _) (Obj.cells (vcA x) 71)).alloc (by simp) (Obj.cells (vcA y) 71)
 by_cases a1 : x.r = y.r
 ·
  have e1 : ((x.r : Int) != (y.r : Int)) = false := by simp [a1]
  by_cases a2 : x.c = y.c
  ·
   have e2 : ((x.c : Int) != (y.c : Int)) = false := by simp [a2]
   by_cases a3 : x.b = y.b
   ·
    have e3 : ((x.b : Int) != (y.b : Int)) = false := by simp [a3]
    have L := Lib.hid (show lessV x y = decide (x.p < y.p) by unfold lessV; rw [if_pos a1, if_pos a2, if_pos a3])
    clear a1 a2 a3
    go_enter Tryd.func70, Tryd.ntmps70
    go_wp2
    go_ret
    exact ⟨ret_bool (by rw [L.out]), hb⟩
   ·
    have e3 : ((x.b : Int) != (y.b : Int)) = true := by simp; omega
    have L := Lib.hid (show lessV x y = decide (x.b < y.b) by unfold lessV; rw [if_pos a1, if_pos a2, if_neg a3])
    clear a1 a2 a3
    go_enter Tryd.func70, Tryd.ntmps70
    go_wp2
    go_ret
    exact ⟨ret_bool (by rw [L.out]), hb⟩
  ·
   have e2 : ((x.c : Int) != (y.c : Int)) = true := by simp; omega
   have L := Lib.hid (show lessV x y = decide (x.c < y.c) by unfold lessV; rw [if_pos a1, if_neg a2])
   clear a1 a2
   go_enter Tryd.func70, Tryd.ntmps70
   go_wp2
   go_ret
   exact ⟨ret_bool (by rw [L.out]), hb⟩
 ·
  have e1 : ((x.r : Int) != (y.r : Int)) = true := by simp; omega
  have L := Lib.hid (show lessV x y = decide (x.r < y.r) by unfold lessV; rw [if_neg a1])
  clear a1
  go_enter Tryd.func70, Tryd.ntmps70
  go_wp2
  go_ret
  exact ⟨ret_bool (by rw [L.out]), hb⟩
theorem plusV_yes (x : Vc) (k : Nat) (h : 4294967295 < x.c + k) : plusV x k = { x with c := 4294967295 } := by unfold plusV; rw [if_pos h]
theorem plusV_no (x : Vc) (k : Nat) (h : ¬ 4294967295 < x.c + k) : plusV x k = { x with c := x.c + k } := by unfold plusV; rw [if_neg h]
theorem two_new (w : World) (A : Array Value) (t : TypeId) : Blk ((w.alloc (Obj.cells A t)).alloc (Obj.cells A t)) (w.heap.size + 1) A t := by
 have := Blk.new (w.alloc (Obj.cells A t)) A t
 rwa [show (w.alloc (Obj.cells A t)).heap.size = w.heap.size + 1 by simp] at this
set_option maxHeartbeats 1000000 in
theorem plus_any (x : Vc) (k : Nat) (w : World) (hx : x.c < 4294967296) (hk : k < 4294967296) : Calls Tryd.prog 81 #[vcV x, .int .u32 (k : Nat)] w fun e w' => e = .returned (vcV (plusV x k)) ∧ Below w.heap.size w w' := by
 have hi := Lib.hid sizeV
 have fin := fun A => Lib.hid (two_new w A 71)
 have l1 : (x.c : Int) < 4294967296 := by omega
 have hb : ∀ A, Below w.heap.size w ((w.alloc (Obj.cells A 71)).alloc (Obj.cells A 71)) := fun A => ((Below.refl _ _).alloc (Nat.le_refl _) _).alloc (by simp) _
 by_cases c : 4294967295 < x.c + k
 ·
  have d1 : (4294967295 : Int) - (x.c : Int) < (k : Int) := by omega
  have E := Lib.hid (show (x.c : Int) + (4294967295 - (x.c : Int)) = ((4294967295 : Nat) : Int) by omega)
  have L := Lib.hid (plusV_yes x k c)
  clear c
  go_enter Tryd.func81, Tryd.ntmps81
  go_wp2
  refine bodyPost_ret (v := .agg _) (results_cell_row Tryd.results81 _ _ (w.heap.size + 1) 71 _ (0, 0) _ rfl (fin _).out Tryd.underlying71 rfl hi.out) rfl ⟨?_, hb _⟩
  rw [L.out, E.out]
 ·
  have d1 : ¬ (4294967295 : Int) - (x.c : Int) < (k : Int) := by omega
  have l2 : (x.c : Int) + (k : Int) < 4294967296 := by omega
  have L := Lib.hid (plusV_no x k c)
  clear c
  go_enter Tryd.func81, Tryd.ntmps81
  go_wp2
  refine bodyPost_ret (v := .agg _) (results_cell_row Tryd.results81 _ _ (w.heap.size + 1) 71 _ (0, 0) _ rfl (fin _).out Tryd.underlying71 rfl hi.out) rfl ⟨?_, hb _⟩
  rw [L.out]
  simp
end
section
open Go.RowKit
def eqV (x y : Vc) : Bool := decide (x.r = y.r) && decide (x.c = y.c) && decide (x.b = y.b) && decide (x.p = y.p)
set_option maxRecDepth 100000 in
set_option maxHeartbeats 1000000 in
theorem equal_vc (x y : Vc) (w : World) : (Op.equalIn 10000 71 (vcV x) (vcV y)).run Tryd.prog w = .ok (eqV x y) w := by
 have hS : Tryd.prog.underlying 71 = some (.struct (Tryd.prog.fieldsOf 71)) := by kernel_rfl
 have hp : Tryd.prog.stoodInHeld 71 = false := by kernel_rfl
 rw [show (10000 : Nat) = 9999 + 1 from rfl, run_equalIn_agg w 9999 71 _ _ hS hp]
 simp only [Program.fieldsOf, Tryd.underlying71]
 have u22 := Tryd.underlying28
 have u23 := Tryd.underlying36
 have u24 := Tryd.underlying59
 have u29 := Tryd.underlying29
 go_simp
 simp only [Int.natCast_inj]
 unfold eqV
 by_cases h0 : x.r = y.r
 ·
  by_cases h1 : x.c = y.c
  ·
   by_cases h2 : x.b = y.b
   ·
    by_cases h3 : x.p = y.p <;> simp [h0, h1, h2, h3]
   ·
    simp [h0, h1, h2]
  ·
   simp [h0, h1]
 ·
  simp [h0]
end
section

end
section
open Go.RowKit
section
variable {P : Program} {ops : Array Oper} {C : World → Prop} {Q : Act → Prop} {a : Act} {o : Oper} {rest : List Oper}
end
end
section
open Go.RowKit
attribute [local irreducible] wpQuiet
section
variable {α : Type} {enc : α → List Value} {size : Nat} {w w' : World} {base : Nat} {e : TypeId} {v : Value} {l : List α}
theorem Own.shape (h : Own w base e size enc v l) : ∃ a c, v = .slice a l.length c ∧ l.length ≤ c ∧ c ≤ maxLen := by
 rcases h.cases with ⟨rfl, rfl⟩ | ⟨g, cap, rfl, -, -, h1, h2⟩
 ·
  exact ⟨none, 0, rfl, Nat.le_refl _, by unfold maxLen; omega⟩
 ·
  exact ⟨_, cap, rfl, h1, h2⟩
theorem Own.elem (henc : ∀ x, (enc x).length = size) {a : Option Addr} {c : Nat} (h : Own w base e size enc (.slice a l.length c) l) {k : Nat} {x : α} (hx : l[k]? = some x) :
 ∃ g, a = some ⟨g, 0, none⟩ ∧ base ≤ g ∧ g < w.heap.size ∧ ∀ W, Below w.heap.size w W → W.rangeAt g (k * size) (enc x) := by
 have hk : k < l.length := (List.getElem?_eq_some_iff.1 hx).1
 rcases h.cases with ⟨h1, rfl⟩ | ⟨g, cap, h1, h2, h3, -, -⟩
 ·
  simp at hk
 ·
  injection h1 with h1 _ h4
  subst h1
  subst h4
  refine ⟨g, rfl, h2, h3, fun W hW j u hu => ?_⟩
  have hj : j < size := by have := (List.getElem?_eq_some_iff.1 hu).1; rw [henc] at this; exact this
  rw [(h.next hW).at henc k j x hx hj, hu]
end
end
end Go.Proofs.YtebnpblincgjlaaDoor
