import Derived.Test.YtccbdmccfbjmeaaDoorG3
set_option linter.unusedSimpArgs false
set_option linter.unusedVariables false
section
/- Own blocks beside owned things: the class of worlds of the evaluator. -/
namespace Go.Proofs.YtccbdmccfbjmeaaDoor.Ev
open Go.RowKit
/-- What may change is F. -/
structure Mv (F : Nat → Prop) (w w' : World) : Prop where
  os : w'.os = w.os
  tape : w'.tape = w.tape
  output : w'.output = w.output
  size : w.heap.size ≤ w'.heap.size
  block : ∀ k, k < w.heap.size → ¬ F k → w'.heap[k]? = w.heap[k]?
theorem Mv.refl (F : Nat → Prop) (w : World) : Mv F w w := ⟨rfl, rfl, rfl, Nat.le_refl _, fun _ _ _ => rfl⟩
theorem Mv.of_below {F : Nat → Prop} {w w' : World} (h : Below w.heap.size w w') : Mv F w w' := ⟨h.os, h.tape, h.output, h.size, fun k hk _ => h.block k hk⟩
theorem Mv.trans {F G : Nat → Prop} {a b c : World} (h : Mv F a b) (k : Mv G b c) (hG : ∀ x, x < a.heap.size → G x → F x) : Mv F a c :=
  ⟨k.os.trans h.os, k.tape.trans h.tape, k.output.trans h.output, Nat.le_trans h.size k.size, fun x hx hn => (k.block x (Nat.lt_of_lt_of_le hx h.size) (fun g => hn (hG x hx g))).trans (h.block x hx hn)⟩
theorem Mv.below {F : Nat → Prop} {w w' : World} (h : Mv F w w') (hF : ∀ k, F k → w.heap.size ≤ k) : Below w.heap.size w w' := ⟨h.os, h.tape, h.output, h.size, fun k hk => h.block k hk (fun f => by have := hF k f; omega)⟩
theorem Mv.setCell (w : World) (b o : Nat) (u : Value) : Mv (fun k => k = b) w (w.setCell ⟨b, o, none⟩ u) :=
  ⟨rfl, rfl, rfl, ((Below.refl 0 w).setCell (Nat.zero_le _) u (p := ⟨b, o, none⟩)).size, fun k hk hn => heap_setCell_other w ⟨b, o, none⟩ k u hn⟩
theorem Mv.grown {w w' : World} {r : Option Nat} (h : w.grownBy w' r) : Mv (fun k => r = some k) w w' := ⟨h.os, h.tape, h.output, h.size, fun k hk hn => h.block k hk (fun e => hn e.symm)⟩
theorem Mv.mono {F G : Nat → Prop} {w w' : World} (h : Mv F w w') (hG : ∀ k, F k → G k) : Mv G w w' := ⟨h.os, h.tape, h.output, h.size, fun k hk hn => h.block k hk (fun f => hn (hG k f))⟩
theorem Mv.setRow (w : World) (b : Nat) (cs : Array Value) : Mv (fun k => k = b) w (w.setRow b cs) := by
  have h := below_setRow (Below.refl 0 w) (Nat.zero_le b) cs
  exact ⟨h.os, h.tape, h.output, h.size, fun k hk hn => setRow_other w b k cs (fun e => hn e)⟩
theorem Mv.setCells (b : Nat) : ∀ (vs : List Value) (o : Nat) (w : World), Mv (fun k => k = b) w (w.setCells b o vs)
  | [], o, w => Mv.refl _ w
  | v :: vs, o, w => (Mv.setCell w b o v).trans (Mv.setCells b vs (o + 1) (w.setCell ⟨b, o, none⟩ v)) (fun _ _ h => h)
theorem blk_fr {F : Nat → Prop} {w w' : World} {g : Nat} {cs : Array Value} {t : TypeId} (h : Blk w g cs t) (hf : Mv F w w') (hn : ¬ F g) : Blk w' g cs t := (hf.block g h.lt hn).trans h
/-- Something owned: what it says of a world, in which blocks. -/
structure Bd where
  p : World → Prop
  f : Nat → Prop
  /-- blocks ahead of it may be looked at, too: they never change -/
  lo : Nat
  lt : ∀ {W : World} {k : Nat}, p W → f k → k < W.heap.size
  mv : ∀ {G : Nat → Prop} {W W' : World}, p W → Mv G W W' → (∀ k, f k → ¬ G k) → (∀ k, G k → lo ≤ k) → p W'
def Bd.nil : Bd := ⟨fun _ => True, fun _ => False, 0, fun _ h => h.elim, fun _ _ _ _ => trivial⟩
/-- Both, apart from one another. -/
def Bd.sep (A B : Bd) : Bd := ⟨fun W => A.p W ∧ B.p W ∧ ∀ k, A.f k → ¬ B.f k, fun k => A.f k ∨ B.f k, max A.lo B.lo, fun h k => k.elim (A.lt h.1) (B.lt h.2.1),
  fun h m n g => ⟨A.mv h.1 m (fun k q => n k (.inl q)) (fun k q => Nat.le_trans (Nat.le_max_left _ _) (g k q)), B.mv h.2.1 m (fun k q => n k (.inr q)) (fun k q => Nat.le_trans (Nat.le_max_right _ _) (g k q)), h.2.2⟩⟩
abbrev Bds := List Bd
def sepL : Bds → Bd
  | [] => Bd.nil
  | A :: l => A.sep (sepL l)
/-- Blocks of one's own, by name, beside things that are owned; w0 is the world at first. -/
structure Kf (w0 : World) (F : Nat → Option (Nat × Array Value × TypeId)) (A : Bd) (w : World) : Prop where
  all : ∀ l x, F l = some x → Blk w x.1 x.2.1 x.2.2
  below : Below w0.heap.size w0 w
  new : ∀ l x, F l = some x → w0.heap.size ≤ x.1
  inj : ∀ l l' x x', F l = some x → F l' = some x' → x.1 = x'.1 → l = l'
  a : A.p w
  ap : ∀ l x, F l = some x → ¬ A.f x.1
  nw : ∀ k, A.f k → w0.heap.size ≤ k
  lo : A.lo ≤ w0.heap.size
section
variable {w0 w w' : World} {F F' : Nat → Option (Nat × Array Value × TypeId)} {A A' : Bd} {b l : Nat} {cs : Array Value} {ty : TypeId}
theorem Kf.next (K : Kf w0 F A w) (hb : Below w.heap.size w w') : Kf w0 F A w' :=
  ⟨fun l x h => (K.all l x h).below hb (K.all l x h).lt, K.below.trans (hb.mono K.below.size), K.new, K.inj, A.mv K.a (Mv.of_below hb) (fun _ _ e => e) (fun _ e => (e : False).elim), K.ap, K.nw, K.lo⟩
theorem Kf.drew (K : Kf w0 F A w) : Kf w0 F A w.drew := K.next (Below.refl _ _).drew
/-- Fewer blocks, or other names. -/
theorem Kf.re (K : Kf w0 F A w) (h : ∀ l x, F' l = some x → ∃ l', F l' = some x) (hi : ∀ l l' x x', F' l = some x → F' l' = some x' → x.1 = x'.1 → l = l') : Kf w0 F' A w :=
  ⟨fun l x e => (h l x e).elim fun l' e' => K.all l' x e', K.below, fun l x e => (h l x e).elim fun l' e' => K.new l' x e', hi, K.a, fun l x e => (h l x e).elim fun l' e' => K.ap l' x e', K.nw, K.lo⟩
theorem Kf.eq (K : Kf w0 F A w) (h : ∀ l, F' l = F l) : Kf w0 F' A w := by rw [show F' = F from funext h]; exact K
theorem Kf.alloc (K : Kf w0 F A w) (cs : Array Value) (ty : TypeId) (hF : ∀ j, F' j = if j = l then some (w.heap.size, cs, ty) else F j) : Kf w0 F' A (w.alloc (.cells cs ty)) := by
  have hlt : ∀ j x, F j = some x → x.1 < w.heap.size := fun j x h => (K.all j x h).lt
  refine ⟨fun j x h => ?_, K.below.alloc K.below.size _, fun j x h => ?_, fun j j' x x' h h' e => ?_, A.mv K.a (Mv.of_below ((Below.refl _ _).alloc (Nat.le_refl _) _)) (fun _ _ e => e) (fun _ e => (e : False).elim), fun j x h hf => ?_, K.nw, K.lo⟩
  · rw [hF] at h
    split at h
    · injection h with h; subst h; exact Blk.new _ _ _
    · exact (K.all j x h).alloc _
  · rw [hF] at h
    split at h
    · injection h with h; subst h; exact K.below.size
    · exact K.new j x h
  · rw [hF] at h h'
    split at h <;> split at h'
    · next e1 e2 => rw [e1, e2]
    · injection h with h; subst h; have := hlt j' x' h'; simp at e; omega
    · injection h' with h'; subst h'; have := hlt j x h; simp at e; omega
    · exact K.inj j j' x x' h h' e
  · rw [hF] at h
    split at h
    · injection h with h; subst h; exact Nat.lt_irrefl _ (A.lt K.a hf)
    · exact K.ap j x h hf
theorem Kf.mid (K : Kf w0 F A w) (e : F l = some (b, cs, ty)) (o : Nat) (vs : List Value) (hF : ∀ j, F' j = if j = l then some (b, setL cs o vs, ty) else F j) : Kf w0 F' A (w.setCells b o vs) := by
  have hb := K.all l _ e
  have hne : ∀ j x, j ≠ l → F j = some x → x.1 ≠ b := fun j x hj h e2 => hj (K.inj j l x _ h e e2)
  have ha : ¬ A.f b := K.ap l _ e
  have hm := Mv.setCells b vs o w
  refine ⟨fun j x h => ?_, below_setCells (K.new l _ e) vs o w K.below, fun j x h => ?_, fun j j' x x' h h' e2 => ?_, A.mv K.a hm (fun k hf e2 => ha (e2 ▸ hf)) (fun k e2 => e2 ▸ Nat.le_trans K.lo (K.new l _ e)), fun j x h hf => ?_, K.nw, K.lo⟩
  · rw [hF] at h
    split at h
    · injection h with h; subst h; exact Blk.setCells vs o cs w hb
    · next hj => exact Blk.setCellsOther (fun e2 => hne j x hj h e2.symm) vs o x.2.1 w (K.all j x h)
  · rw [hF] at h
    split at h
    · injection h with h; subst h; exact K.new l (b, cs, ty) e
    · exact K.new j x h
  · rw [hF] at h h'
    split at h <;> split at h'
    · next e1 e2 => rw [e1, e2]
    · next hj hj' => injection h with h; subst h; exact absurd e2.symm (hne j' x' hj' h')
    · next hj hj' => injection h' with h'; subst h'; exact absurd e2 (hne j x hj h)
    · exact K.inj j j' x x' h h' e2
  · rw [hF] at h
    split at h
    · injection h with h; subst h; exact ha hf
    · exact K.ap j x h hf
end
theorem sepL_f {k : Nat} : ∀ {l : Bds}, (sepL l).f k ↔ ∃ A ∈ l, A.f k
  | [] => ⟨fun h => (h : False).elim, fun ⟨_, h, _⟩ => (by cases h)⟩
  | A :: l => by
    have ih := sepL_f (k := k) (l := l)
    show A.f k ∨ (sepL l).f k ↔ _
    rw [ih]
    constructor
    · rintro (h | ⟨B, hB, h⟩)
      · exact ⟨A, List.mem_cons_self, h⟩
      · exact ⟨B, List.mem_cons_of_mem _ hB, h⟩
    · rintro ⟨B, hB, h⟩
      rcases List.mem_cons.1 hB with rfl | hB
      · exact .inl h
      · exact .inr ⟨B, hB, h⟩
def Apart (A B : Bd) : Prop := ∀ k, A.f k → ¬ B.f k
theorem sepL_p {w : World} : ∀ {l : Bds}, (sepL l).p w ↔ (∀ A ∈ l, A.p w) ∧ l.Pairwise Apart
  | [] => ⟨fun _ => ⟨fun _ h => (by cases h), List.Pairwise.nil⟩, fun _ => trivial⟩
  | A :: l => by
    have ih := sepL_p (w := w) (l := l)
    show A.p w ∧ (sepL l).p w ∧ (∀ k, A.f k → ¬ (sepL l).f k) ↔ _
    rw [ih, List.pairwise_cons]
    constructor
    · rintro ⟨h1, ⟨h2, h3⟩, h4⟩
      refine ⟨fun B hB => ?_, fun B hB k hk hn => h4 k hk (sepL_f.2 ⟨B, hB, hn⟩), h3⟩
      rcases List.mem_cons.1 hB with rfl | hB
      · exact h1
      · exact h2 B hB
    · rintro ⟨h1, h2, h3⟩
      exact ⟨h1 A List.mem_cons_self, ⟨fun B hB => h1 B (List.mem_cons_of_mem _ hB), h3⟩, fun k hk hn => by obtain ⟨B, hB, q⟩ := sepL_f.1 hn; exact h2 B hB k hk q⟩
theorem Apart.symm {A B : Bd} (h : Apart A B) : Apart B A := fun k hb ha => h k ha hb
theorem sepL_app {w : World} {l r : Bds} : (sepL (l ++ r)).p w ↔ (sepL l).p w ∧ (sepL r).p w ∧ ∀ k, (sepL l).f k → ¬ (sepL r).f k := by
  rw [sepL_p, sepL_p, sepL_p, List.pairwise_append]
  constructor
  · rintro ⟨h1, h2, h3, h4⟩
    refine ⟨⟨fun A hA => h1 A (List.mem_append_left _ hA), h2⟩, ⟨fun A hA => h1 A (List.mem_append_right _ hA), h3⟩, fun k hk hn => ?_⟩
    obtain ⟨A, hA, q⟩ := sepL_f.1 hk
    obtain ⟨B, hB, q2⟩ := sepL_f.1 hn
    exact h4 A hA B hB k q q2
  · rintro ⟨⟨h1, h2⟩, ⟨h3, h4⟩, h5⟩
    refine ⟨fun A hA => ?_, h2, h4, fun A hA B hB k hk hn => h5 k (sepL_f.2 ⟨A, hA, hk⟩) (sepL_f.2 ⟨B, hB, hn⟩)⟩
    rcases List.mem_append.1 hA with hA | hA
    · exact h1 A hA
    · exact h3 A hA
theorem sepL_fapp {k : Nat} {l r : Bds} : (sepL (l ++ r)).f k ↔ (sepL l).f k ∨ (sepL r).f k := by
  rw [sepL_f, sepL_f, sepL_f]
  constructor
  · rintro ⟨A, hA, h⟩
    rcases List.mem_append.1 hA with hA | hA
    · exact .inl ⟨A, hA, h⟩
    · exact .inr ⟨A, hA, h⟩
  · rintro (⟨A, hA, h⟩ | ⟨A, hA, h⟩)
    · exact ⟨A, List.mem_append_left _ hA, h⟩
    · exact ⟨A, List.mem_append_right _ hA, h⟩
theorem sepL_lo : ∀ {l r : Bds}, (sepL (l ++ r)).lo = max (sepL l).lo (sepL r).lo
  | [], r => by show (sepL r).lo = max 0 _; omega
  | A :: l, r => by
    have ih := sepL_lo (l := l) (r := r)
    show max A.lo (sepL (l ++ r)).lo = max (max A.lo (sepL l).lo) (sepL r).lo
    omega
/-- Some of the owned things ahead of the others. -/
theorem sepL_mid {w : World} {a b c : Bds} : ((sepL (a ++ (b ++ c))).p w ↔ ((sepL b).sep (sepL (a ++ c))).p w) ∧ ∀ k, (sepL (a ++ (b ++ c))).f k ↔ ((sepL b).sep (sepL (a ++ c))).f k := by
  constructor
  · show _ ↔ ((sepL b).p w ∧ (sepL (a ++ c)).p w ∧ ∀ k, (sepL b).f k → ¬ (sepL (a ++ c)).f k)
    rw [sepL_app, sepL_app, sepL_app]
    constructor
    · rintro ⟨h1, ⟨h2, h3, h4⟩, h5⟩
      exact ⟨h2, ⟨h1, h3, fun k hk hn => h5 k hk (sepL_fapp.2 (.inr hn))⟩, fun k hk hn => (sepL_fapp.1 hn).elim (fun q => h5 k q (sepL_fapp.2 (.inl hk))) (h4 k hk)⟩
    · rintro ⟨h2, ⟨h1, h3, h5⟩, h4⟩
      exact ⟨h1, ⟨h2, h3, fun k hk hn => h4 k hk (sepL_fapp.2 (.inr hn))⟩, fun k hk hn => (sepL_fapp.1 hn).elim (fun q => h4 k q (sepL_fapp.2 (.inl hk))) (h5 k hk)⟩
  · intro k
    show _ ↔ ((sepL b).f k ∨ (sepL (a ++ c)).f k)
    rw [sepL_fapp, sepL_fapp, sepL_fapp]
    constructor <;> rintro (h | h | h) <;> simp [h]
theorem Kf.toMid {w0 w : World} {F : Nat → Option (Nat × Array Value × TypeId)} {a b c : Bds} (K : Kf w0 F (sepL (a ++ (b ++ c))) w) : Kf w0 F ((sepL b).sep (sepL (a ++ c))) w :=
  have q := sepL_mid (w := w) (a := a) (b := b) (c := c)
  ⟨K.all, K.below, K.new, K.inj, q.1.1 K.a, fun j x e hf => K.ap j x e ((q.2 _).2 hf), fun k hf => K.nw k ((q.2 _).2 hf), (by
    have := K.lo
    rw [sepL_lo, sepL_lo] at this
    show max (sepL b).lo (sepL (a ++ c)).lo ≤ _
    rw [sepL_lo]
    omega)⟩
theorem Kf.ofMid {w0 w : World} {F : Nat → Option (Nat × Array Value × TypeId)} {a b c : Bds} (K : Kf w0 F ((sepL b).sep (sepL (a ++ c))) w) : Kf w0 F (sepL (a ++ (b ++ c))) w :=
  have q := sepL_mid (w := w) (a := a) (b := b) (c := c)
  ⟨K.all, K.below, K.new, K.inj, q.1.2 K.a, fun j x e hf => K.ap j x e ((q.2 _).1 hf), fun k hf => K.nw k ((q.2 _).1 hf), (by
    have : max (sepL b).lo (sepL (a ++ c)).lo ≤ _ := K.lo
    rw [sepL_lo] at this
    rw [sepL_lo, sepL_lo]
    omega)⟩
section
variable {w0 w w' : World} {F F' : Nat → Option (Nat × Array Value × TypeId)} {A A' : Bd} {b l : Nat} {cs : Array Value} {ty : TypeId}
theorem Kf.iff (K : Kf w0 F A w) (hp : A.p w → A'.p w) (hf : ∀ k, A'.f k → A.f k) (hl : A'.lo ≤ A.lo) : Kf w0 F A' w :=
  ⟨K.all, K.below, K.new, K.inj, hp K.a, fun l x h q => K.ap l x h (hf _ q), fun k q => K.nw k (hf k q), Nat.le_trans hl K.lo⟩
end
abbrev Mem := List (Array Value × TypeId)
/-- Own blocks at even names, others' at odd ones. -/
def mix (β : List Nat) (m : Mem) (F : Nat → Option (Nat × Array Value × TypeId)) (l : Nat) : Option (Nat × Array Value × TypeId) :=
  if l % 2 = 0 then (m[l / 2]?).map (fun x => (β.getD (l / 2) 0, x)) else F (l / 2)
def Kv (w0 : World) (F : Nat → Option (Nat × Array Value × TypeId)) (β : List Nat) (m : Mem) (A : Bds) (w : World) : Prop := Kf w0 (mix β m F) (sepL A) w
section
variable {w0 w w' : World} {F : Nat → Option (Nat × Array Value × TypeId)} {A A' : Bds} {l : Nat} {cs : Array Value} {ty : TypeId} {β : List Nat} {m : Mem}
theorem mix_own (l : Nat) : mix β m F (2 * l) = (m[l]?).map (fun x => (β.getD l 0, x)) := by
  unfold mix
  rw [if_pos (by omega), show 2 * l / 2 = l by omega]
theorem Kv.at (K : Kv w0 F β m A w) (e : m[l]? = some (cs, ty)) : Blk w (β.getD l 0) cs ty :=
  Kf.all K (2 * l) (β.getD l 0, cs, ty) (by rw [mix_own, e]; rfl)
theorem Kv.next (K : Kv w0 F β m A w) (hb : Below w.heap.size w w') : Kv w0 F β m A w' := Kf.next K hb
theorem Kv.mid (K : Kv w0 F β m A w) (e : m[l]? = some (cs, ty)) (o : Nat) (vs : List Value) : Kv w0 F β (m.set l (setL cs o vs, ty)) A (w.setCells (β.getD l 0) o vs) := by
  have hl := (List.getElem?_eq_some_iff.1 e).1
  refine Kf.mid (l := 2 * l) K (by rw [mix_own, e]; rfl) o vs fun j => ?_
  unfold mix
  by_cases c : j % 2 = 0
  · rw [if_pos c, if_pos c]
    by_cases d : j / 2 = l
    · rw [if_pos (by omega), d, List.getElem?_set_self hl]
      rfl
    · rw [if_neg (by omega), List.getElem?_set_ne (fun e => d e.symm)]
  · rw [if_neg c, if_neg (by omega), if_neg c]
theorem Kv.alloc (K : Kv w0 F β m A w) (hl : β.length = m.length) (cs : Array Value) (ty : TypeId) : Kv w0 F (β ++ [w.heap.size]) (m ++ [(cs, ty)]) A (w.alloc (.cells cs ty)) := by
  refine Kf.alloc (l := 2 * m.length) K cs ty fun j => ?_
  unfold mix
  by_cases c : j % 2 = 0
  · rw [if_pos c, if_pos c]
    by_cases d : j / 2 < m.length
    · rw [if_neg (by omega), List.getElem?_append_left d, List.getD_eq_getElem?_getD, List.getD_eq_getElem?_getD, List.getElem?_append_left (by omega)]
    · by_cases e : j / 2 = m.length
      · rw [if_pos (by omega), e, List.getElem?_concat_length, List.getD_eq_getElem?_getD, ← hl, List.getElem?_concat_length]
        rfl
      · rw [if_neg (by omega), List.getElem?_eq_none (by simp; omega), List.getElem?_eq_none (by omega)]
        rfl
  · rw [if_neg c, if_neg (by omega), if_neg c]
/-- Later blocks are let go. -/
theorem Kv.pre {m2 : Mem} (K : Kv w0 F β (m ++ m2) A w) (hl : m.length ≤ β.length) : Kv w0 F (β.take m.length) m A w := by
  have e : ∀ l x, mix (β.take m.length) m F l = some x → mix β (m ++ m2) F l = some x := fun l x h => by
    unfold mix at h ⊢
    split at h
    · next c =>
      rw [if_pos c]
      by_cases d : l / 2 < m.length
      · rw [List.getElem?_append_left d]
        rw [List.getD_eq_getElem?_getD, List.getElem?_take_of_lt d] at h
        rw [List.getD_eq_getElem?_getD]
        exact h
      · rw [List.getElem?_eq_none (by omega)] at h; cases h
    · next c => rw [if_neg c]; exact h
  exact Kf.re K (fun l x h => ⟨l, e l x h⟩) (fun l l' x x' h h' q => Kf.inj K l l' x x' (e l x h) (e l' x' h') q)
theorem Kv.start (K : Kf w0 F (sepL A) w) : Kv w0 F [] [] A w := by
  refine Kf.re K (fun l x h => ?_) (fun l l' x x' h h' e => ?_)
  · unfold mix at h
    split at h
    · simp at h
    · exact ⟨_, h⟩
  · unfold mix at h h'
    split at h <;> split at h'
    · simp at h
    · simp at h
    · simp at h'
    · have := K.inj _ _ _ _ h h' e; omega
theorem Kv.stop (K : Kv w0 F β m A w) : Kf w0 F (sepL A) w := by
  have e : ∀ l, mix β m F (2 * l + 1) = F l := fun l => by
    unfold mix
    rw [if_neg (by omega), show (2 * l + 1) / 2 = l by omega]
  refine Kf.re K (fun l x h => ⟨2 * l + 1, by rw [e]; exact h⟩) (fun l l' x x' h h' e2 => ?_)
  have := Kf.inj K (2 * l + 1) (2 * l' + 1) x x' (by rw [e]; exact h) (by rw [e]; exact h') e2
  omega
end
end Go.Proofs.YtccbdmccfbjmeaaDoor.Ev
end
