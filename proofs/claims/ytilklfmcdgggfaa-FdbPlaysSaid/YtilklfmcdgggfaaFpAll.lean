/- The developers' table and the document's one beside each other: what each method leaves of both. FdbPlays' walk: what stands behind each act, and behind all. FdbPlays' walk: none. FdbPlays' walk: an act, tick. FdbPlays' walk: an act, drop. FdbPlays' walk: an act, flush. FdbPlays' walk: an act, put. FdbPlays' walk: an act, find. FdbPlays' walk: an act, learn. FdbPlays' walk. FdbPlays' walk, over arguments as they come. -/
import Derived.Test.YtilklfmcdgggfaaFpK
import Derived.Test.YtilklfmcdgggfaaRef9
import Derived.Test.YtilklfmcdgggfaaLits
import Derived.Deep.DeepCutAuto
section
namespace Go.Proofs.Ytilklfmcdgggfaa
open Go.RowKit
set_option linter.unusedSimpArgs false
set_option linter.unusedVariables false

theorem filter_both (l : List En) (q : En → Bool) : (l.filter q).length + (l.filter (fun z => !q z)).length = l.length := by
  induction l with
  | nil => rfl
  | cons y l ih =>
    cases h : q y <;> simp [h] <;> omega
theorem flush_same (l : List En) (p : Int) (hp : 1 ≤ p) : l.filter (fun z => !decide (z.port = p)) = flushL p 0 l ∧ (((l.filter (fun z => decide (z.port = p))).length : Nat) : Int) = (l.length : Int) - (flushL p 0 l).length := by
  have e : l.filter (fun z => !decide (z.port = p)) = flushL p 0 l := by
    unfold flushL
    congr 1
    funext z
    unfold stays
    rw [if_pos (by omega)]
    simp
  refine ⟨e, ?_⟩
  have := filter_both l (fun z => decide (z.port = p))
  rw [e] at this
  omega
theorem drop_same (l : List En) (v : Nat) : l.filter (fun z => !decide (z.vid = v)) = flushL 0 v l ∧ (((l.filter (fun z => decide (z.vid = v))).length : Nat) : Int) = (l.length : Int) - (flushL 0 v l).length := by
  have e : l.filter (fun z => !decide (z.vid = v)) = flushL 0 v l := by
    unfold flushL
    congr 1
    funext z
    unfold stays
    rw [if_neg (by omega)]
    simp
  refine ⟨e, ?_⟩
  have := filter_both l (fun z => decide (z.vid = v))
  rw [e] at this
  omega
theorem tick_same (l : List En) (li : Int) : (l.map upE).filter (fun z => !decide (li ≤ z.age)) = tickL li l ∧ ((((l.map upE).filter (fun x => decide (li ≤ x.age))).length : Nat) : Int) = (l.length : Int) - (tickL li l).length := by
  have e : (l.map upE).filter (fun z => !decide (li ≤ z.age)) = tickL li l := by
    unfold tickL
    have : upE = older := rfl
    rw [this]
    congr 1
    funext z
    rw [Bool.eq_iff_iff]
    simp
  refine ⟨e, ?_⟩
  have := filter_both (l.map upE) (fun z => decide (li ≤ z.age))
  rw [e, List.length_map] at this
  omega
theorem takes_good (li : Int) (x : En) : takesB li x = (goodE x && decide (0 ≤ x.age) && decide (x.age < li)) := by
  unfold takesB goodE
  congr 2
  congr 2
  rw [Bool.eq_iff_iff]
  simp
theorem put_same (mo li : Int) (l : List En) (x : En) : putP mo li l x = (putE mo li l x).1 ∧ (takesB li x && roomB mo l x) = (putE mo li l x).2 := by
  have key : (takesB li x && roomB mo l x) = true ↔ (goodE x = true ∧ 0 ≤ x.age ∧ x.age < li ∧ ¬ (atK enK (enK x) l < 0 ∧ mo ≤ (l.length : Nat))) := by
    rw [takes_good]
    unfold roomB
    simp only [Bool.and_eq_true, Bool.or_eq_true, decide_eq_true_eq]
    constructor
    · rintro ⟨⟨⟨h1, h2⟩, h3⟩, h4⟩
      exact ⟨h1, h2, h3, by omega⟩
    · rintro ⟨h1, h2, h3, h4⟩
      exact ⟨⟨⟨h1, h2⟩, h3⟩, by omega⟩
  unfold putP putE
  by_cases h : (takesB li x && roomB mo l x) = true
  · rw [if_pos h, if_pos (key.1 h), h]
    exact ⟨rfl, rfl⟩
  · rw [if_neg h, if_neg (fun q => h (key.2 q))]
    exact ⟨rfl, by simpa using h⟩

/-- The oldest one's place. -/
theorem oldN_spec (l : List En) : ∀ i, 0 < l.length → i ≤ l.length → (∀ (j : Nat) (y z : En), j < i → l[j]? = some y → l[oldN l i]? = some z → y.age ≤ z.age) ∧ (∀ (j : Nat) (y z : En), j < oldN l i → l[j]? = some y → l[oldN l i]? = some z → y.age < z.age)
  | 0, _, _ => ⟨fun j _ _ h => absurd h (by omega), fun j _ _ h => absurd h (by simp [oldN])⟩
  | i + 1, h, hi => by
    obtain ⟨h1, h2⟩ := oldN_spec l i h (by omega)
    have ho := oldN_lt l i h (by omega)
    obtain ⟨zo, hzo⟩ : ∃ z, l[oldN l i]? = some z := ⟨_, List.getElem?_eq_getElem ho⟩
    obtain ⟨zi, hzi⟩ : ∃ z, l[i]? = some z := ⟨_, List.getElem?_eq_getElem (show i < l.length by omega)⟩
    have e1 : l.getD (oldN l i) ⟨0, 0, 0, 0⟩ = zo := by rw [List.getD_eq_getElem?_getD, hzo]; rfl
    have e2 : l.getD i ⟨0, 0, 0, 0⟩ = zi := by rw [List.getD_eq_getElem?_getD, hzi]; rfl
    have hle : oldN l i ≤ i := by
      have : ∀ k, oldN l k ≤ k := fun k => by
        induction k with
        | zero => exact Nat.le_refl _
        | succ k ih => unfold oldN; split <;> omega
      exact this i
    by_cases c : zo.age < zi.age
    · have e : oldN l (i + 1) = i := by show (if _ then _ else _) = _; rw [e1, e2, if_pos c]
      rw [e]
      refine ⟨fun j y z hj hy hz => ?_, fun j y z hj hy hz => ?_⟩
      · rw [hzi] at hz
        cases hz
        rcases Nat.lt_or_ge j i with q | q
        · have := h1 j y zo q hy hzo; omega
        · have : j = i := by omega
          subst this
          rw [hzi] at hy
          cases hy
          omega
      · rw [hzi] at hz
        cases hz
        have := h1 j y zo hj hy hzo
        omega
    · have e : oldN l (i + 1) = oldN l i := by show (if _ then _ else _) = _; rw [e1, e2, if_neg c]
      rw [e]
      refine ⟨fun j y z hj hy hz => ?_, h2⟩
      rcases Nat.lt_or_ge j i with q | q
      · exact h1 j y z q hy hz
      · have : j = i := by omega
        subst this
        rw [hzi] at hy
        rw [hzo] at hz
        cases hy
        cases hz
        omega
theorem olderB_irrefl (x : En) : olderB x x = false := by unfold olderB; rw [if_pos rfl]; simp
theorem old_same {l : List En} (hs : l.Pairwise (fun a b => enK a < enK b)) {z : En} (hz : OldS l z) : l.getD (oldN l l.length) ⟨0, 0, 0, 0⟩ = z ∧ cutK enK (enK z) l = l.eraseIdx (oldN l l.length) := by
  have hne : 0 < l.length := List.length_pos_of_mem hz.1
  obtain ⟨h1, h2⟩ := oldN_spec l l.length hne (Nat.le_refl _)
  have ho := oldN_lt l l.length hne (Nat.le_refl _)
  generalize oldN l l.length = o at h1 h2 ho ⊢
  have hzo : l[o]? = some l[o] := List.getElem?_eq_getElem ho
  have hold : ∀ y ∈ l, y = l[o] ∨ olderB l[o] y = true := by
    intro y hy
    obtain ⟨j, hj, rfl⟩ := List.mem_iff_getElem.1 hy
    have a1 := h1 j l[j] l[o] hj (List.getElem?_eq_getElem hj) hzo
    by_cases e : l[o].age = l[j].age
    · rcases Nat.lt_trichotomy j o with c | c | c
      · have := h2 j l[j] l[o] c (List.getElem?_eq_getElem hj) hzo
        omega
      · subst c; exact .inl rfl
      · right
        unfold olderB
        rw [if_pos e, decide_eq_true_eq]
        exact List.pairwise_iff_getElem.1 hs o j ho hj c
    · right
      unfold olderB
      rw [if_neg e, decide_eq_true_eq]
      omega
  have hzz : z = l[o] := by
    rcases hold z hz.1 with h | h
    · exact h
    · rcases hz.2 l[o] (List.getElem_mem ho) with h' | h'
      · exact h'.symm
      · have := olderB_trans h' h
        rw [olderB_irrefl] at this
        cases this
  have hg : l.getD o ⟨0, 0, 0, 0⟩ = z := by rw [List.getD_eq_getElem?_getD, hzo, hzz]; rfl
  refine ⟨hg, ?_⟩
  have hat : atK enK (enK z) l = o := atK_some enK (enK z) l o l[o] hzo (by rw [hzz]) (fun j y hj hy e => by
    have := pairK_inj (key := enK) hs hy hzo (by rw [e, hzz])
    omega)
  unfold cutK
  rw [if_neg (by rw [hat]; omega), hat]
  rfl
theorem learn_same {mo li : Int} (hli : 1 ≤ li) {l l' : List En} (hs : l.Pairwise (fun a b => enK a < enK b)) {vid a : Nat} {port : Int} {gv : Array Value} {full : Bool} (h : LearnR mo li l ⟨vid, a, port, 0⟩ l' gv full) :
    learnE mo l ⟨vid, a, port, 0⟩ = (l', gv, full) := by
  have ht : takesB li ⟨vid, a, port, 0⟩ = goodE ⟨vid, a, port, 0⟩ := by
    rw [takes_good]
    simp only
    rw [decide_eq_true (show (0 : Int) ≤ 0 by omega), decide_eq_true (show (0 : Int) < li by omega), Bool.and_true, Bool.and_true]
  unfold learnE
  rcases h with ⟨h1, rfl, rfl, rfl⟩ | ⟨h1, h2, rfl, rfl, rfl⟩ | ⟨h1, h2, z, hz, rfl, rfl, rfl⟩
  · rw [if_pos (by rw [← ht]; exact h1)]
  · rw [if_neg (by rw [← ht, h1]; decide), if_pos (by rw [Bool.or_eq_true, decide_eq_true_eq, decide_eq_true_eq] at h2; exact h2)]
    rfl
  · rw [if_neg (by rw [← ht, h1]; decide), if_neg (by
      rw [Bool.or_eq_false_iff, decide_eq_false_iff_not, decide_eq_false_iff_not] at h2
      rintro (q | q)
      · exact h2.1 q
      · exact h2.2 q)]
    obtain ⟨q1, q2⟩ := old_same hs hz
    rw [q1, q2]
    rfl

/-- What is kept of both: ages within bounds, and room. -/
structure Gd (mo li : Int) (l : List En) : Prop where
  age : ∀ x ∈ l, 0 ≤ x.age ∧ x.age < li
  few : (l.length : Int) ≤ mo
  port : ∀ x ∈ l, 1 ≤ x.port
theorem Gd.nil {mo li : Int} (h : 0 ≤ mo) : Gd mo li [] := ⟨by simp, by simpa using h, by simp⟩
theorem Gd.filter {mo li : Int} {l : List En} (h : Gd mo li l) (q : En → Bool) : Gd mo li (l.filter q) :=
  ⟨fun x hx => h.age x (List.mem_filter.1 hx).1, by have := List.length_filter_le q l; have := h.few; omega, fun x hx => h.port x (List.mem_filter.1 hx).1⟩
theorem Gd.tick {mo li : Int} {l : List En} (h : Gd mo li l) : Gd mo li (tickL li l) := by
  refine ⟨fun x hx => ?_, by have := tickL_len li l; have := h.few; omega, fun x hx => ?_⟩
  all_goals
    unfold tickL at hx
    obtain ⟨h1, h2⟩ := List.mem_filter.1 hx
    obtain ⟨y, hy, rfl⟩ := List.mem_map.1 h1
  · have := h.age y hy
    have h3 := of_decide_eq_true h2
    exact ⟨by show 0 ≤ y.age + 1; omega, h3⟩
  · exact h.port y hy
theorem takes_port {li : Int} {x : En} (h : takesB li x = true) : 1 ≤ x.port := by
  unfold takesB at h
  simp only [Bool.and_eq_true, decide_eq_true_eq] at h
  exact h.1.1.1.2
theorem Gd.put {mo li : Int} {l : List En} (h : Gd mo li l) (x : En) : Gd mo li (putP mo li l x) := by
  unfold putP
  split
  · rename_i c
    have hp := takes_port (Bool.and_eq_true _ _ ▸ c).1
    rw [Bool.and_eq_true, takes_good, Bool.and_eq_true, Bool.and_eq_true, decide_eq_true_eq, decide_eq_true_eq] at c
    refine ⟨fun y hy => ?_, putD_len h.few c.2, fun y hy => ?_⟩
    · rcases mem_putD hy with rfl | h1
      · exact ⟨c.1.1.2, c.1.2⟩
      · exact h.age y h1
    · rcases mem_putD hy with rfl | h1
      · exact hp
      · exact h.port y h1
  · exact h
theorem Gd.learn {mo li : Int} (hli : 1 ≤ li) {l l' : List En} {vid a : Nat} {port : Int} {gv : Array Value} {full : Bool} (h : Gd mo li l) (hr : LearnR mo li l ⟨vid, a, port, 0⟩ l' gv full) : Gd mo li l' := by
  rcases hr with ⟨h1, rfl, -⟩ | ⟨h1, h2, rfl, -⟩ | ⟨h1, h2, z, hz, rfl, -⟩
  · exact h
  · refine ⟨fun y hy => ?_, putD_len h.few h2, fun y hy => ?_⟩
    · rcases mem_putD hy with rfl | h3
      · exact ⟨Int.le_refl _, by show (0 : Int) < li; omega⟩
      · exact h.age y h3
    · rcases mem_putD hy with rfl | h3
      · exact takes_port h1
      · exact h.port y h3
  · refine ⟨fun y hy => ?_, ?_, fun y hy => ?_⟩
    · rcases mem_putD hy with rfl | h3
      · exact ⟨Int.le_refl _, by show (0 : Int) < li; omega⟩
      · exact h.age y (mem_cutK h3)
    · have := putC_len (x := ⟨vid, a, port, 0⟩) hz.1
      have := h.few
      omega
    · rcases mem_putD hy with rfl | h3
      · exact takes_port h1
      · exact h.port y (mem_cutK h3)
/-- Of a port that is none there is nothing. -/
theorem Gd.low {mo li : Int} {l : List En} (h : Gd mo li l) {p : Int} (hp : p < 1) : l.filter (fun z => !decide (z.port = p)) = l ∧ (l.filter (fun x => decide (x.port = p))).length = 0 := by
  refine ⟨?_, ?_⟩
  · rw [List.filter_eq_self]
    intro z hz
    have := h.port z hz
    rw [decide_eq_false (by omega)]
    rfl
  · rw [List.length_eq_zero_iff, List.filter_eq_nil_iff]
    intro z hz
    have := h.port z hz
    rw [decide_eq_false (by omega)]
    decide
/-- What is told of one that had to go. -/
theorem learn_gone {mo li : Int} {l l' : List En} {x : En} {gv : Array Value} {full : Bool} (h : LearnR mo li l x l' gv full) : ∃ z : En, gv = enA z := by
  rcases h with ⟨-, -, rfl, -⟩ | ⟨-, -, -, rfl, -⟩ | ⟨-, -, z, -, -, rfl, -⟩
  · exact ⟨⟨0, 0, 0, 0⟩, rfl⟩
  · exact ⟨⟨0, 0, 0, 0⟩, rfl⟩
  · exact ⟨z, rfl⟩

theorem KeptO.own9 {A B base : Nat} {w w' : World} {v : Value} {l : List En} (h : KeptO A B w w') (ho : Own w base 38 9 enC v l) (hb : B ≤ base) : Own w' base 38 9 enC v l := by
  refine ⟨ho.1, ?_⟩
  rcases ho.2 with hn | ⟨g, cap, cur, rfl, h2, h3, h4⟩
  · exact .inl hn
  · exact .inr ⟨g, cap, cur, rfl, h2, by rw [h.block g (.inr (by omega)) (Array.getElem?_eq_some_iff.1 h3).1]; exact h3, h4⟩
/-- Both, and the document's block. -/
structure Two9 (w0 : World) (b A B M base : Nat) (mo li : Int) (v : Value) (lp lm : List En) (w : World) : Prop where
  tab : TF w b A B mo li lp
  own : Own w base 38 9 enC v lm
  blk : Blk w M #[.int .i64 mo, .int .i64 li, v] 28
  low : w0.heap.size ≤ A ∧ A ≤ B ∧ B ≤ M ∧ M < base ∧ base ≤ w.heap.size
  below : Below w0.heap.size w0 w
section
variable {w0 w w' : World} {b A B M base : Nat} {mo li : Int} {v v' : Value} {lp lm l' : List En}
theorem Two9.next (h : Two9 w0 b A B M base mo li v lp lm w) (hb : Below w.heap.size w w') : Two9 w0 b A B M base mo li v lp lm w' :=
  ⟨h.tab.keep (fun k _ hk => hb.block k (by have := h.low; omega)), h.own.next hb, h.blk.below hb h.blk.lt, ⟨h.low.1, h.low.2.1, h.low.2.2.1, h.low.2.2.2.1, Nat.le_trans h.low.2.2.2.2 hb.size⟩, h.below.trans (hb.mono (by have := h.low; omega))⟩
theorem Two9.prog (h : Two9 w0 b A B M base mo li v lp lm w) (ht : TF w' b A B mo li l') (hk : KeptO A B w w') : Two9 w0 b A B M base mo li v l' lm w' := by
  have hl := h.low
  exact ⟨ht, hk.own9 h.own (by omega), hk.blk h.blk (.inr hl.2.2.1), ⟨hl.1, hl.2.1, hl.2.2.1, hl.2.2.2.1, Nat.le_trans hl.2.2.2.2 hk.size⟩, h.below.trans ((hk.below (by omega)).mono hl.1)⟩
theorem Two9.model (h : Two9 w0 b A B M base mo li v lp lm w) (ho : Own w base 38 9 enC v' l') : Two9 w0 b A B M base mo li v' lp l' (w.setRow M #[.int .i64 mo, .int .i64 li, v']) := by
  have hl := h.low
  refine ⟨h.tab.keep (fun k _ hk => setRow_other w M k _ (by omega)), ho.setRow (fun q => by have := (ho.lt M q).1; omega) _, h.blk.row _, ⟨hl.1, hl.2.1, hl.2.2.1, hl.2.2.2.1, by simpa [World.setRow] using hl.2.2.2.2⟩, below_setRow h.below (by omega) _⟩
end
/-- .. and the law's own blocks of a round: the act, its key, its entry. -/
structure Rd9 (w0 : World) (b A B M base : Nat) (mo li : Int) (c d e : Nat) (x : Ac9) (v : Value) (lp lm : List En) (w : World) : Prop where
  two : Two9 w0 b A B M base mo li v lp lm w
  act : Blk w c (acA9 x) 33
  key : Blk w d (kyA x.vid x.mac) 36
  ent : Blk w e (enA ⟨x.vid, x.mac, x.port, x.age⟩) 38
  lo : base ≤ c ∧ base ≤ d ∧ base ≤ e
section
variable {w0 w w' : World} {b A B M base c d e : Nat} {mo li : Int} {x : Ac9} {v v' : Value} {lp lm l' : List En}
theorem Rd9.next (h : Rd9 w0 b A B M base mo li c d e x v lp lm w) (hb : Below w.heap.size w w') : Rd9 w0 b A B M base mo li c d e x v lp lm w' :=
  ⟨h.two.next hb, h.act.below hb h.act.lt, h.key.below hb h.key.lt, h.ent.below hb h.ent.lt, h.lo⟩
theorem Rd9.prog (h : Rd9 w0 b A B M base mo li c d e x v lp lm w) (ht : TF w' b A B mo li l') (hk : KeptO A B w w') : Rd9 w0 b A B M base mo li c d e x v l' lm w' := by
  have hl := h.two.low
  have hq := h.lo
  exact ⟨h.two.prog ht hk, hk.blk h.act (.inr (by omega)), hk.blk h.key (.inr (by omega)), hk.blk h.ent (.inr (by omega)), h.lo⟩
theorem Rd9.model (h : Rd9 w0 b A B M base mo li c d e x v lp lm w) (ho : Own w base 38 9 enC v' l') : Rd9 w0 b A B M base mo li c d e x v' lp l' (w.setRow M #[.int .i64 mo, .int .i64 li, v']) := by
  have hl := h.two.low
  have hq := h.lo
  exact ⟨h.two.model ho, h.act.rowOther (by omega) _, h.key.rowOther (by omega) _, h.ent.rowOther (by omega) _, h.lo⟩
end
end Go.Proofs.Ytilklfmcdgggfaa
end
section
namespace Go.Proofs.Ytilklfmcdgggfaa
open Go.RowKit
attribute [local irreducible] wpQuiet
set_option linter.unusedSimpArgs false
set_option linter.unusedVariables false

/-- The code from a statement on, also in a loop. -/
def fromL (n : Nat) : Code → Option (Code × Bool)
  | .region id ops d => if id = n then some (.region id ops d, false) else none
  | .seq x y => match fromL n x with
    | some (x', true) => some (x', true)
    | some (x', false) => some (.seq x' y, false)
    | none => fromL n y
  | .block _ c => match fromL n c with
    | some (c', _) => some (c', true)
    | none => none
  | .scope c => fromL n c
  | .loop c => match fromL n c with
    | some (c', _) => some (c', true)
    | none => none
  | .cond _ x y => match fromL n x with
    | some (x', _) => some (x', true)
    | none => match fromL n y with
      | some (y', _) => some (y', true)
      | none => none
  | _ => none
noncomputable def tail9 (n : Nat) : Code := ((Try.f3.body.bind (fromL n)).getD (.skip, true)).1
theorem equal_e9 (x : En) (w : World) : (Op.equalIn 10000 38 (.agg (enA x)) (.agg (enA x))).run Try.prog w = .ok true w := by
  have hS : Try.prog.underlying 38 = some (.struct (Try.prog.fieldsOf 38)) := by kernel_rfl
  have hp : Try.prog.stoodInHeld 38 = false := by kernel_rfl
  rw [show (10000 : Nat) = 9999 + 1 from rfl, run_equalIn_agg w 9999 38 _ _ hS hp]
  simp only [Program.fieldsOf, Try.underlying38]
  have u3 := Try.underlying3
  have u40 := Try.underlying30
  have e1 : ∀ W, (Op.equalIn 9999 31 (mac (byteF x.mac)) (mac (byteF x.mac))).run Try.prog W = .ok true W := fun W => by rw [equal_mac 9997 31 Try.underlying31, eqMac_self]
  go_simp

set_option maxRecDepth 100000 in
set_option maxHeartbeats 16000000 in
/-- Behind each act: the answers' number, and all that both have. -/
theorem t39 (w0 : World) (b A B M base : Nat) (mo li : Int) (v : Value) (l : List En) (x : Int) (Q : Exit → Act → World → Prop) (f0 f1 f2 f3 f4 f5 f6 f9 f10 f11 f12 f15 f16 f17 f18 f19 f20 f21 f22 f23 f24 f25 f26 f27 f28 f29 f30 f31 f32 f33 f34 f35 f36 f37 f38 f39 f40 f41 f42 f43 f44 f45 f46 f47 f48 f49 f50 f51 f52 f53 f54 f55 f56 f57 f58 f59 f60 f61 f62 f63 : Value) (f64 f65 f66 f67 f68 f69 f70 f71 f72 f73 f74 f75 f76 f77 f78 f79 f80 f81 f82 f83 f84 f85 f86 f87 f88 f89 f90 f91 f92 f93 f94 f95 f96 f97 f98 f99 f100 f101 f102 f103 f104 f105 f106 f107 f108 f109 f110 f111 f112 f113 f114 f115 f116 f117 f118 f119 f120 f121 f122 f123 : Value) (f124 f125 f126 f127 f128 f129 f130 f131 f132 f133 f134 f135 f136 f137 f138 f139 f140 f141 f142 f143 f144 f145 f146 f147 f148 f149 f150 f151 f152 f153 f154 f155 f156 f157 f158 f159 f160 f161 f162 f163 f164 f165 f166 f167 f168 f169 f170 f171 f172 f173 f174 f175 f176 f177 f178 f179 f180 f181 f182 f183 : Value) (f184 f185 f186 f187 f188 f189 f190 f191 f192 f193 f194 f195 f196 f197 f198 f199 f200 f201 f202 f203 f204 f205 f206 f207 f208 f209 f210 f211 f212 f213 f214 f215 f216 f217 f218 f219 f220 f221 f222 f223 f224 f225 f226 f227 f228 f229 f230 f231 f232 f233 f234 f235 f236 f237 f238 f239 f240 f241 f242 f243 : Value) (f244 f245 f246 f247 f248 f249 f250 f251 f252 f253 f254 f255 f256 f257 f258 f259 f260 f261 f262 f263 f264 f265 f266 f267 f268 f269 f270 f271 f272 f273 f274 f275 f276 f277 f278 f279 f280 f281 f282 f283 f284 f285 f286 f287 f288 f289 f290 f291 : Value) (wc : World) (KC : Two9 w0 b A B M base mo li v l l wc) (hl : l.length ≤ 64)
    (hQ : ∀ (u6 u25 u26 u205 u206 u207 u208 u209 u210 u211 u212 u213 u214 u215 u216 u217 u218 u219 u220 u221 u222 u223 u224 u225 u226 u227 u228 u229 u230 u231 u232 u233 u234 u235 u236 u237 u238 u239 u240 u241 u242 u243 u244 u245 u246 u247 u248 u249 u250 : Value) (wx : World), Two9 w0 b A B M base mo li v l l wx → Q .normal { tmps := #[f0, f1, f2, f3, f4, f5, u6, .pointer (some ⟨b, 0, none⟩), .pointer (some ⟨M, 0, none⟩), f9, f10, f11, f12, .int .i64 x, .int .i64 x, f15, f16, f17, f18, f19, f20, f21, f22, f23, f24, u25, u26, f27, f28, f29, f30, f31, f32, f33, f34, f35, f36, f37, f38, f39, f40, f41, f42, f43, f44, f45, f46, f47, f48, f49, f50, f51, f52, f53, f54, f55, f56, f57, f58, f59, f60, f61, f62, f63, f64, f65, f66, f67, f68, f69, f70, f71, f72, f73, f74, f75, f76, f77, f78, f79, f80, f81, f82, f83, f84, f85, f86, f87, f88, f89, f90, f91, f92, f93, f94, f95, f96, f97, f98, f99, f100, f101, f102, f103, f104, f105, f106, f107, f108, f109, f110, f111, f112, f113, f114, f115, f116, f117, f118, f119, f120, f121, f122, f123, f124, f125, f126, f127, f128, f129, f130, f131, f132, f133, f134, f135, f136, f137, f138, f139, f140, f141, f142, f143, f144, f145, f146, f147, f148, f149, f150, f151, f152, f153, f154, f155, f156, f157, f158, f159, f160, f161, f162, f163, f164, f165, f166, f167, f168, f169, f170, f171, f172, f173, f174, f175, f176, f177, f178, f179, f180, f181, f182, f183, f184, f185, f186, f187, f188, f189, f190, f191, f192, f193, f194, f195, f196, f197, f198, f199, f200, f201, f202, f203, f204, u205, u206, u207, u208, u209, u210, u211, u212, u213, u214, u215, u216, u217, u218, u219, u220, u221, u222, u223, u224, u225, u226, u227, u228, u229, u230, u231, u232, u233, u234, u235, u236, u237, u238, u239, u240, u241, u242, u243, u244, u245, u246, u247, u248, u249, u250, f251, f252, f253, f254, f255, f256, f257, f258, f259, f260, f261, f262, f263, f264, f265, f266, f267, f268, f269, f270, f271, f272, f273, f274, f275, f276, f277, f278, f279, f280, f281, f282, f283, f284, f285, f286, f287, f288, f289, f290, f291], defers := [] } wx) :
    Code.wp Try.prog (tail9 39) Q { tmps := #[f0, f1, f2, f3, f4, f5, f6, .pointer (some ⟨b, 0, none⟩), .pointer (some ⟨M, 0, none⟩), f9, f10, f11, f12, .int .i64 x, .int .i64 x, f15, f16, f17, f18, f19, f20, f21, f22, f23, f24, f25, f26, f27, f28, f29, f30, f31, f32, f33, f34, f35, f36, f37, f38, f39, f40, f41, f42, f43, f44, f45, f46, f47, f48, f49, f50, f51, f52, f53, f54, f55, f56, f57, f58, f59, f60, f61, f62, f63, f64, f65, f66, f67, f68, f69, f70, f71, f72, f73, f74, f75, f76, f77, f78, f79, f80, f81, f82, f83, f84, f85, f86, f87, f88, f89, f90, f91, f92, f93, f94, f95, f96, f97, f98, f99, f100, f101, f102, f103, f104, f105, f106, f107, f108, f109, f110, f111, f112, f113, f114, f115, f116, f117, f118, f119, f120, f121, f122, f123, f124, f125, f126, f127, f128, f129, f130, f131, f132, f133, f134, f135, f136, f137, f138, f139, f140, f141, f142, f143, f144, f145, f146, f147, f148, f149, f150, f151, f152, f153, f154, f155, f156, f157, f158, f159, f160, f161, f162, f163, f164, f165, f166, f167, f168, f169, f170, f171, f172, f173, f174, f175, f176, f177, f178, f179, f180, f181, f182, f183, f184, f185, f186, f187, f188, f189, f190, f191, f192, f193, f194, f195, f196, f197, f198, f199, f200, f201, f202, f203, f204, f205, f206, f207, f208, f209, f210, f211, f212, f213, f214, f215, f216, f217, f218, f219, f220, f221, f222, f223, f224, f225, f226, f227, f228, f229, f230, f231, f232, f233, f234, f235, f236, f237, f238, f239, f240, f241, f242, f243, f244, f245, f246, f247, f248, f249, f250, f251, f252, f253, f254, f255, f256, f257, f258, f259, f260, f261, f262, f263, f264, f265, f266, f267, f268, f269, f270, f271, f272, f273, f274, f275, f276, f277, f278, f279, f280, f281, f282, f283, f284, f285, f286, f287, f288, f289, f290, f291], defers := [] } wc := by
  obtain ⟨n, hn⟩ : ∃ n, l.length = n := ⟨_, rfl⟩
  obtain ⟨A2, c2, hv, hrow2⟩ := src_rows enC_len (by omega) KC.own.src
  rw [hn] at hv hl
  subst hv
  have HROW2 := Lib.hid hrow2
  have HN := Lib.hid hn
  have K0 := Lib.hid KC
  have HQ := Lib.hid hQ
  have hn64 : (n : Int) ≤ 64 := by omega
  have HLS := Lib.hid (list22 KC.tab (by omega))
  clear KC hQ hrow2 hn
  conv => arg 2; whnf
  conv => arg 4; zeta
  go_upto_region 42 with (go_at_call 22; refine HLS.out.mono ?_; rintro e w6 ⟨v1, rfl, hs6, hb6⟩)
  obtain ⟨A1, c1, hv1, hrow1⟩ := src_rows enC_len (by omega) hs6
  rw [HN.out] at hv1
  subst hv1
  have J6 := Lib.hid (K0.out.next hb6)
  have HRW1 := Lib.hid hrow1
  have HRW2 := Lib.hid (HROW2.out.same hb6)
  have m2 : w6.cell? ⟨M, 2, none⟩ = some (.slice A2 n c2) := J6.out.blk.cell 2
  clear hs6 hb6 hrow1
  go_upto_region 45 with fail
  go_loopw [26] (fun i wr => ∃ j : Nat, j ≤ n ∧ i = .int .i64 j ∧ Below w6.heap.size w6 wr) (fun i _ => n - (intOf i).toNat)
  case atStart => exact ⟨0, Nat.zero_le _, rfl, Below.refl _ _⟩
  case round =>
    obtain ⟨j, hj, rfl, hbw⟩ := hrel
    have HBW := Lib.hid hbw
    clear hbw m2
    by_cases hjn : j < n
    · obtain ⟨y, hy⟩ : ∃ y, l[j]? = some y := ⟨_, List.getElem?_eq_getElem (show j < l.length by rw [HN.out]; exact hjn)⟩
      rcases HRW1.out with hnil | ⟨b1, o1, rfl, hb1, hc1⟩
      · rw [hnil] at hy; simp at hy
      rcases HRW2.out with hnil | ⟨b2, o2, rfl, hb2, hc2⟩
      · rw [hnil] at hy; simp at hy
      have HC0 := Lib.hid (show ∀ w, Below w6.heap.size w6 w → w.cell? ⟨b1, o1 + j * 9, none⟩ = some (.int .u16 (y.vid : Nat)) from fun w hC => by
        rw [hC.cell (p := ⟨b1, o1 + j * 9, none⟩) hb1]
        exact hc1 j y hy 0 _ rfl)
      have HC7 := Lib.hid (show ∀ w, Below w6.heap.size w6 w → w.cell? ⟨b1, o1 + j * 9 + 7, none⟩ = some (.int .i64 y.port) from fun w hC => by
        rw [hC.cell (p := ⟨b1, o1 + j * 9 + 7, none⟩) hb1]
        exact hc1 j y hy 7 _ rfl)
      have HC8 := Lib.hid (show ∀ w, Below w6.heap.size w6 w → w.cell? ⟨b1, o1 + j * 9 + 8, none⟩ = some (.int .i64 y.age) from fun w hC => by
        rw [hC.cell (p := ⟨b1, o1 + j * 9 + 8, none⟩) hb1]
        exact hc1 j y hy 8 _ rfl)
      have HCM := Lib.hid (show ∀ w, Below w6.heap.size w6 w → w.rangeAt b1 (o1 + j * 9 + 1) (macA (byteF y.mac)).toList from fun w hC i u hu => by
        rw [hC.cell (p := ⟨b1, o1 + j * 9 + 1 + i, none⟩) hb1]
        have q := hc1 j y hy (1 + i) u (en_mac y i u (by simpa using hu))
        rw [show o1 + (j * 9 + (1 + i)) = o1 + j * 9 + 1 + i by omega] at q
        exact q)
      have HR2 := Lib.hid (show ∀ w, Below w6.heap.size w6 w → w.rangeAt b2 (o2 + j * 9) (enA y).toList from fun w hC i u hu => by
        rw [Nat.add_assoc, hC.cell (p := ⟨b2, o2 + (j * 9 + i), none⟩) hb2]
        exact hc2 j y hy i u hu)
      have HM2 := Lib.hid (show ∀ w, Below w6.heap.size w6 w → w.cell? ⟨M, 2, none⟩ = some (.slice (some ⟨b2, o2, none⟩) n c2) from fun w hC => by
        rw [(J6.out.next hC).blk.cell]
        rfl)
      have HM34 := Lib.hid (show (Try.prog.info? 34).map (·.size) = some (macA (byteF y.mac)).size by kernel_rfl)
      have HM38 := Lib.hid (show (Try.prog.info? 38).map (·.size) = some (enA y).size by kernel_rfl)
      have EQ : ∀ W : World, (Op.equalIn 10000 38 (.agg (enA y)) (.agg (enA y))).run Try.prog W = .ok true W := equal_e9 y
      have hjn' : (j : Int) < (n : Int) := by omega
      clear hy hc1 hc2
      go_upto_region 47 with fail
      refine wp_region_quiet (C := fun w => Below w6.heap.size w6 w) (by kernel_rfl) (by kernel_rfl) HBW.out.drew ?_
      (refine q_val (v := ?_) (by rfl) ?_ ?_; rotate_left; (· (intro w hC; go_simp; try with_reducible rfl)); (try simp only [Act.put, List.getElem_toArray, List.getElem_cons_succ, List.getElem_cons_zero, List.setIfInBounds_toArray, List.set_cons_zero, List.set_cons_succ]))
      (refine q_val (v := ?_) (by rfl) ?_ ?_; rotate_left; (· (intro w hC; go_simp; try with_reducible rfl)); (try simp only [Act.put, List.getElem_toArray, List.getElem_cons_succ, List.getElem_cons_zero, List.setIfInBounds_toArray, List.set_cons_zero, List.set_cons_succ]))
      (refine q_val (v := ?_) (by rfl) ?_ ?_; rotate_left; (· (intro w hC; go_simp; try with_reducible rfl)); (try simp only [Act.put, List.getElem_toArray, List.getElem_cons_succ, List.getElem_cons_zero, List.setIfInBounds_toArray, List.set_cons_zero, List.set_cons_succ]))
      (refine q_val (v := ?_) (by rfl) ?_ ?_; rotate_left; (· (intro w hC; go_simp; try with_reducible rfl)); (try simp only [Act.put, List.getElem_toArray, List.getElem_cons_succ, List.getElem_cons_zero, List.setIfInBounds_toArray, List.set_cons_zero, List.set_cons_succ]))
      (refine q_val (v := ?_) (by rfl) ?_ ?_; rotate_left; (· (intro w hC; go_simp; try with_reducible rfl)); (try simp only [Act.put, List.getElem_toArray, List.getElem_cons_succ, List.getElem_cons_zero, List.setIfInBounds_toArray, List.set_cons_zero, List.set_cons_succ]))
      (refine q_val (v := ?_) (by rfl) ?_ ?_; rotate_left; (· (intro w hC; have q := HC0.out w hC; go_simp; try with_reducible rfl)); (try simp only [Act.put, List.getElem_toArray, List.getElem_cons_succ, List.getElem_cons_zero, List.setIfInBounds_toArray, List.set_cons_zero, List.set_cons_succ]))
      (refine q_val (v := ?_) (by rfl) ?_ ?_; rotate_left; (· (intro w hC; go_simp; try with_reducible rfl)); (try simp only [Act.put, List.getElem_toArray, List.getElem_cons_succ, List.getElem_cons_zero, List.setIfInBounds_toArray, List.set_cons_zero, List.set_cons_succ]))
      (refine q_val (v := ?_) (by rfl) ?_ ?_; rotate_left; (· (intro w hC; go_simp; try with_reducible rfl)); (try simp only [Act.put, List.getElem_toArray, List.getElem_cons_succ, List.getElem_cons_zero, List.setIfInBounds_toArray, List.set_cons_zero, List.set_cons_succ]))
      (refine q_val (v := ?_) (by rfl) ?_ ?_; rotate_left; (· (intro w hC; go_simp; try with_reducible rfl)); (try simp only [Act.put, List.getElem_toArray, List.getElem_cons_succ, List.getElem_cons_zero, List.setIfInBounds_toArray, List.set_cons_zero, List.set_cons_succ]))
      (refine q_val (v := ?_) (by rfl) ?_ ?_; rotate_left; (· (intro w hC; go_simp; try with_reducible rfl)); (try simp only [Act.put, List.getElem_toArray, List.getElem_cons_succ, List.getElem_cons_zero, List.setIfInBounds_toArray, List.set_cons_zero, List.set_cons_succ]))
      (refine q_val (v := ?_) (by rfl) ?_ ?_; rotate_left; (· (intro w hC; go_simp; try with_reducible rfl)); (try simp only [Act.put, List.getElem_toArray, List.getElem_cons_succ, List.getElem_cons_zero, List.setIfInBounds_toArray, List.set_cons_zero, List.set_cons_succ]))
      (refine q_val (v := .agg (macA (byteF y.mac))) (by rfl) (fun w hC => run_loadRange 34 _ rfl b1 (o1 + j * 9 + 1) rfl (macA (byteF y.mac)) _ (HCM.out w hC) Try.underlying34 rfl HM34.out) ?_; (try simp only [Act.put, List.getElem_toArray, List.getElem_cons_succ, List.getElem_cons_zero, List.setIfInBounds_toArray, List.set_cons_zero, List.set_cons_succ]))
      (refine q_val (v := ?_) (by rfl) ?_ ?_; rotate_left; (· (intro w hC; go_simp; try with_reducible rfl)); (try simp only [Act.put, List.getElem_toArray, List.getElem_cons_succ, List.getElem_cons_zero, List.setIfInBounds_toArray, List.set_cons_zero, List.set_cons_succ]))
      (refine q_val (v := ?_) (by rfl) ?_ ?_; rotate_left; (· (intro w hC; go_simp; try with_reducible rfl)); (try simp only [Act.put, List.getElem_toArray, List.getElem_cons_succ, List.getElem_cons_zero, List.setIfInBounds_toArray, List.set_cons_zero, List.set_cons_succ]))
      (refine q_val (v := ?_) (by rfl) ?_ ?_; rotate_left; (· (intro w hC; go_simp; try with_reducible rfl)); (try simp only [Act.put, List.getElem_toArray, List.getElem_cons_succ, List.getElem_cons_zero, List.setIfInBounds_toArray, List.set_cons_zero, List.set_cons_succ]))
      (refine q_val (v := ?_) (by rfl) ?_ ?_; rotate_left; (· (intro w hC; go_simp; try with_reducible rfl)); (try simp only [Act.put, List.getElem_toArray, List.getElem_cons_succ, List.getElem_cons_zero, List.setIfInBounds_toArray, List.set_cons_zero, List.set_cons_succ]))
      (refine q_val (v := ?_) (by rfl) ?_ ?_; rotate_left; (· (intro w hC; have q := HC7.out w hC; go_simp; try with_reducible rfl)); (try simp only [Act.put, List.getElem_toArray, List.getElem_cons_succ, List.getElem_cons_zero, List.setIfInBounds_toArray, List.set_cons_zero, List.set_cons_succ]))
      (refine q_val (v := ?_) (by rfl) ?_ ?_; rotate_left; (· (intro w hC; go_simp; try with_reducible rfl)); (try simp only [Act.put, List.getElem_toArray, List.getElem_cons_succ, List.getElem_cons_zero, List.setIfInBounds_toArray, List.set_cons_zero, List.set_cons_succ]))
      (refine q_val (v := ?_) (by rfl) ?_ ?_; rotate_left; (· (intro w hC; go_simp; try with_reducible rfl)); (try simp only [Act.put, List.getElem_toArray, List.getElem_cons_succ, List.getElem_cons_zero, List.setIfInBounds_toArray, List.set_cons_zero, List.set_cons_succ]))
      (refine q_val (v := ?_) (by rfl) ?_ ?_; rotate_left; (· (intro w hC; go_simp; try with_reducible rfl)); (try simp only [Act.put, List.getElem_toArray, List.getElem_cons_succ, List.getElem_cons_zero, List.setIfInBounds_toArray, List.set_cons_zero, List.set_cons_succ]))
      (refine q_val (v := ?_) (by rfl) ?_ ?_; rotate_left; (· (intro w hC; go_simp; try with_reducible rfl)); (try simp only [Act.put, List.getElem_toArray, List.getElem_cons_succ, List.getElem_cons_zero, List.setIfInBounds_toArray, List.set_cons_zero, List.set_cons_succ]))
      (refine q_val (v := ?_) (by rfl) ?_ ?_; rotate_left; (· (intro w hC; have q := HC8.out w hC; go_simp; try with_reducible rfl)); (try simp only [Act.put, List.getElem_toArray, List.getElem_cons_succ, List.getElem_cons_zero, List.setIfInBounds_toArray, List.set_cons_zero, List.set_cons_succ]))
      (refine q_val (v := ?_) (by rfl) ?_ ?_; rotate_left; (· (intro w hC; go_simp; try with_reducible rfl)); (try simp only [Act.put, List.getElem_toArray, List.getElem_cons_succ, List.getElem_cons_zero, List.setIfInBounds_toArray, List.set_cons_zero, List.set_cons_succ]))
      (refine q_val (v := ?_) (by rfl) ?_ ?_; rotate_left; (· (intro w hC; go_simp; try with_reducible rfl)); (try simp only [Act.put, List.getElem_toArray, List.getElem_cons_succ, List.getElem_cons_zero, List.setIfInBounds_toArray, List.set_cons_zero, List.set_cons_succ]))
      (refine q_val (v := ?_) (by rfl) ?_ ?_; rotate_left; (· (intro w hC; have q := HM2.out w hC; go_simp; try with_reducible rfl)); (try simp only [Act.put, List.getElem_toArray, List.getElem_cons_succ, List.getElem_cons_zero, List.setIfInBounds_toArray, List.set_cons_zero, List.set_cons_succ]))
      (refine q_val (v := ?_) (by rfl) ?_ ?_; rotate_left; (· (intro w hC; go_simp; try with_reducible rfl)); (try simp only [Act.put, List.getElem_toArray, List.getElem_cons_succ, List.getElem_cons_zero, List.setIfInBounds_toArray, List.set_cons_zero, List.set_cons_succ]))
      (refine q_val (v := ?_) (by rfl) ?_ ?_; rotate_left; (· (intro w hC; go_simp; try with_reducible rfl)); (try simp only [Act.put, List.getElem_toArray, List.getElem_cons_succ, List.getElem_cons_zero, List.setIfInBounds_toArray, List.set_cons_zero, List.set_cons_succ]))
      (refine q_val (v := .agg (enA y)) (by rfl) (fun w hC => run_loadRange 38 _ rfl b2 (o2 + j * 9) rfl (enA y) _ (HR2.out w hC) Try.underlying38 rfl HM38.out) ?_; (try simp only [Act.put, List.getElem_toArray, List.getElem_cons_succ, List.getElem_cons_zero, List.setIfInBounds_toArray, List.set_cons_zero, List.set_cons_succ]))
      (refine q_val (v := ?_) (by rfl) ?_ ?_; rotate_left; (· (intro w hC; go_simp; try with_reducible rfl)); (try simp only [Act.put, List.getElem_toArray, List.getElem_cons_succ, List.getElem_cons_zero, List.setIfInBounds_toArray, List.set_cons_zero, List.set_cons_succ]))
      refine wpQuiet_nil ?_
      intro w8 hC8
      have HB8 := Lib.hid hC8
      clear hC8
      go_wp2_with fail
      go_roundw
      case rel => exact ⟨j + 1, by omega, by go_num, HB8.out⟩
      case measure => simp [intOf]; omega
    · have hjn2 : ¬ (j : Int) < (n : Int) := by omega
      clear hjn
      go_wp2_with fail
      exact HQ.out _ _ _ _ _ _ _ _ _ _ _ _ _ _ _ _ _ _ _ _ _ _ _ _ _ _ _ _ _ _ _ _ _ _ _ _ _ _ _ _ _ _ _ _ _ _ _ _ _ _ (J6.out.next HBW.out)
end Go.Proofs.Ytilklfmcdgggfaa
end
section
namespace Go.Proofs.Ytilklfmcdgggfaa
open Go.RowKit
attribute [local irreducible] wpQuiet
set_option linter.unusedSimpArgs false
set_option linter.unusedVariables false

theorem clamp_same (hi x : Int) (h : 1 ≤ hi) : clampI hi x = clampD hi x := by unfold clampI clampD; split <;> (try split) <;> omega

set_option maxRecDepth 100000 in
set_option maxHeartbeats 16000000 in
theorem t49 (w0 : World) (f0 f1 f2 f3 f4 f5 f6 f7 f8 f9 f10 f11 f12 f13 f14 f15 f16 f17 f18 f19 f20 f21 f22 f23 f24 f25 f26 f27 f28 f29 f30 f31 f32 f33 f34 f35 f36 f37 f38 f39 f40 f41 f42 f43 f44 f45 f46 f47 f48 f49 f50 f51 f52 f53 f54 f55 f56 f57 f58 f59 : Value) (f60 f61 f62 f63 f64 f65 f66 f67 f68 f69 f70 f71 f72 f73 f74 f75 f76 f77 f78 f79 f80 f81 f82 f83 f84 f85 f86 f87 f88 f89 f90 f91 f92 f93 f94 f95 f96 f97 f98 f99 f100 f101 f102 f103 f104 f105 f106 f107 f108 f109 f110 f111 f112 f113 f114 f115 f116 f117 f118 f119 : Value) (f120 f121 f122 f123 f124 f125 f126 f127 f128 f129 f130 f131 f132 f133 f134 f135 f136 f137 f138 f139 f140 f141 f142 f143 f144 f145 f146 f147 f148 f149 f150 f151 f152 f153 f154 f155 f156 f157 f158 f159 f160 f161 f162 f163 f164 f165 f166 f167 f168 f169 f170 f171 f172 f173 f174 f175 f176 f177 f178 f179 : Value) (f180 f181 f182 f183 f184 f185 f186 f187 f188 f189 f190 f191 f192 f193 f194 f195 f196 f197 f198 f199 f200 f201 f202 f203 f204 f205 f206 f207 f208 f209 f210 f211 f212 f213 f214 f215 f216 f217 f218 f219 f220 f221 f222 f223 f224 f225 f226 f227 f228 f229 f230 f231 f232 f233 f234 f235 f236 f237 f238 f239 : Value) (f240 f241 f242 f243 f244 f245 f246 f247 f248 f249 f250 f251 f252 f253 f254 f255 f256 f257 f258 f259 f260 f261 f262 f263 f264 f265 f266 f267 f268 f269 f270 f271 f272 f273 f274 f275 f276 f277 f278 f279 f280 f281 f282 f283 f284 f285 f286 f287 f288 f289 f290 f291 : Value) (wc : World) (KC : Below w0.heap.size w0 wc) :
    Code.wp Try.prog (tail9 49) (bodyPost Try.prog Try.f3 fun e w' => e = .returned (.bool true) ∧ Below w0.heap.size w0 w') { tmps := #[f0, f1, f2, f3, f4, f5, f6, f7, f8, f9, f10, f11, f12, f13, f14, f15, f16, f17, f18, f19, f20, f21, f22, f23, f24, f25, f26, f27, f28, f29, f30, f31, f32, f33, f34, f35, f36, f37, f38, f39, f40, f41, f42, f43, f44, f45, f46, f47, f48, f49, f50, f51, f52, f53, f54, f55, f56, f57, f58, f59, f60, f61, f62, f63, f64, f65, f66, f67, f68, f69, f70, f71, f72, f73, f74, f75, f76, f77, f78, f79, f80, f81, f82, f83, f84, f85, f86, f87, f88, f89, f90, f91, f92, f93, f94, f95, f96, f97, f98, f99, f100, f101, f102, f103, f104, f105, f106, f107, f108, f109, f110, f111, f112, f113, f114, f115, f116, f117, f118, f119, f120, f121, f122, f123, f124, f125, f126, f127, f128, f129, f130, f131, f132, f133, f134, f135, f136, f137, f138, f139, f140, f141, f142, f143, f144, f145, f146, f147, f148, f149, f150, f151, f152, f153, f154, f155, f156, f157, f158, f159, f160, f161, f162, f163, f164, f165, f166, f167, f168, f169, f170, f171, f172, f173, f174, f175, f176, f177, f178, f179, f180, f181, f182, f183, f184, f185, f186, f187, f188, f189, f190, f191, f192, f193, f194, f195, f196, f197, f198, f199, f200, f201, f202, f203, f204, f205, f206, f207, f208, f209, f210, f211, f212, f213, f214, f215, f216, f217, f218, f219, f220, f221, f222, f223, f224, f225, f226, f227, f228, f229, f230, f231, f232, f233, f234, f235, f236, f237, f238, f239, f240, f241, f242, f243, f244, f245, f246, f247, f248, f249, f250, f251, f252, f253, f254, f255, f256, f257, f258, f259, f260, f261, f262, f263, f264, f265, f266, f267, f268, f269, f270, f271, f272, f273, f274, f275, f276, f277, f278, f279, f280, f281, f282, f283, f284, f285, f286, f287, f288, f289, f290, f291], defers := [] } wc := by
  have HL := Lib.hid (show ∀ W : World, Calls Try.prog 20 #[.pointer none, .agg #[.int .u16 0, .int .u8 0, .int .u8 0, .int .u8 0, .int .u8 0, .int .u8 0, .int .u8 0], .int .i64 1] W fun e w' => e = .returned (.tuple #[.agg #[.int .u16 0, .int .u8 0, .int .u8 0, .int .u8 0, .int .u8 0, .int .u8 0, .int .u8 0, .int .i64 0, .int .i64 0], .bool false]) ∧ Below W.heap.size W w' from fun W => nil_learn W 0 0 1)
  have HF := Lib.hid (show ∀ W : World, Calls Try.prog 18 #[.pointer none, .agg #[.int .u16 0, .int .u8 0, .int .u8 0, .int .u8 0, .int .u8 0, .int .u8 0, .int .u8 0]] W fun e w' => e = .returned (.tuple #[.int .i64 0, .bool false]) ∧ Below W.heap.size W w' from fun W => nil_find W 0 0)
  have HP := Lib.hid (show ∀ W : World, Calls Try.prog 17 #[.pointer none, .agg #[.int .u16 0, .int .u8 0, .int .u8 0, .int .u8 0, .int .u8 0, .int .u8 0, .int .u8 0, .int .i64 1, .int .i64 0]] W fun e w' => e = .returned (.bool false) ∧ Below W.heap.size W w' from fun W => nil_put W ⟨0, 0, 1, 0⟩)
  have HD := Lib.hid (show ∀ W : World, Calls Try.prog 15 #[.pointer none, .int .u16 0] W fun e w' => e = .returned (.int .i64 0) ∧ Below W.heap.size W w' from fun W => nil_drop W 0)
  have K0 := Lib.hid KC
  clear KC
  conv => arg 2; whnf
  conv => arg 4; zeta
  go_upto_region 51 with (go_at_call 20; with_reducible refine (HL.out _).mono ?_; rintro e w2 ⟨rfl, hb2⟩)
  have K2 := Lib.hid ((K0.out.trans (hb2.mono K0.out.size)).alloc (by have := K0.out.size; have := hb2.size; omega) (.cells #[.int .u16 0, .int .u8 0, .int .u8 0, .int .u8 0, .int .u8 0, .int .u8 0, .int .u8 0, .int .i64 0, .int .i64 0] 49))
  clear hb2
  generalize w2.alloc (.cells #[.int .u16 0, .int .u8 0, .int .u8 0, .int .u8 0, .int .u8 0, .int .u8 0, .int .u8 0, .int .i64 0, .int .i64 0] 49) = w3 at K2 ⊢
  go_wp2_with (first
    | (go_at_call 18; with_reducible refine (HF.out _).mono ?_; rintro e w4 ⟨rfl, hb4⟩; have K4 := Lib.hid (K2.out.trans (hb4.mono K2.out.size)); clear hb4)
    | (go_at_call 11; with_reducible refine (nil_tick _).mono ?_; rintro e w5 ⟨rfl, hb5⟩; have K5 := Lib.hid (K4.out.trans (hb5.mono K4.out.size)); clear hb5)
    | (go_at_call 13; with_reducible refine (nil_flush _ 1).mono ?_; rintro e w6 ⟨rfl, hb6⟩; have K6 := Lib.hid (K5.out.trans (hb6.mono K5.out.size)); clear hb6)
    | (go_at_call 15; with_reducible refine (HD.out _).mono ?_; rintro e w7 ⟨rfl, hb7⟩; have K7 := Lib.hid (K6.out.trans (hb7.mono K6.out.size)); clear hb7)
    | (go_at_call 17; with_reducible refine (HP.out _).mono ?_; rintro e w8 ⟨rfl, hb8⟩; have K8 := Lib.hid (K7.out.trans (hb8.mono K7.out.size)); clear hb8)
    | (go_at_call 22; with_reducible refine (nil_list9 _).mono ?_; rintro e w9 ⟨rfl, hb9⟩; have K9 := Lib.hid (K8.out.trans (hb9.mono K8.out.size)); clear hb9))
  go_ret
  exact ⟨rfl, K9.out⟩
end Go.Proofs.Ytilklfmcdgggfaa
end
section
namespace Go.Proofs.Ytilklfmcdgggfaa
open Go.RowKit
attribute [local irreducible] wpQuiet
set_option linter.unusedSimpArgs false
set_option linter.unusedVariables false

set_option maxRecDepth 100000 in
set_option maxHeartbeats 32000000 in
theorem a_tick (w0 : World) (b A B M base : Nat) (mo li : Int) (v : Value) (l : List En) (c d e : Nat) (x : Ac9) (MO : Hid (1 ≤ mo ∧ mo ≤ 64)) (LI : Hid (1 ≤ li ∧ li ≤ 1000)) (HXO : Hid (acOk9 x)) (HG : Hid (Gd mo li l)) (Q : Exit → Act → World → Prop) (f0 f1 f2 f3 f4 f5 f6 f9 f15 f16 f17 f18 f19 f20 f21 f22 f23 f24 f25 f26 f27 f28 f29 f30 f31 f32 f33 f34 f35 f36 f37 f38 f39 f40 f41 f42 f43 f44 f45 f46 f47 f48 f49 f50 f51 f52 f53 f54 f55 f56 f57 f58 f59 f60 f61 f62 f63 f64 f65 f66 : Value) (f67 f68 f69 f70 f71 f72 f73 f74 f75 f76 f77 f78 f79 f80 f81 f82 f83 f84 f85 f86 f87 f88 f89 f90 f91 f92 f93 f94 f95 f96 f97 f98 f99 f100 f101 f102 f103 f104 f105 f106 f107 f108 f109 f110 f111 f112 f113 f114 f115 f116 f117 f118 f119 f120 f121 f122 f123 f124 f125 f126 : Value) (f127 f128 f129 f130 f131 f132 f133 f134 f135 f136 f137 f138 f139 f140 f141 f142 f143 f144 f145 f146 f147 f148 f149 f150 f151 f152 f153 f154 f155 f156 f157 f158 f159 f160 f161 f162 f163 f164 f165 f166 f167 f168 f169 f170 f171 f172 f173 f174 f175 f176 f177 f178 f179 f180 f181 f182 f183 f184 f185 f186 : Value) (f187 f188 f189 f190 f191 f192 f193 f194 f195 f196 f197 f198 f199 f200 f201 f202 f203 f204 f205 f206 f207 f208 f209 f210 f211 f212 f213 f214 f215 f216 f217 f218 f219 f220 f221 f222 f223 f224 f225 f226 f227 f228 f229 f230 f231 f232 f233 f234 f235 f236 f237 f238 f239 f240 f241 f242 f243 f244 f245 f246 : Value) (f247 f248 f249 f250 f251 f252 f253 f254 f255 f256 f257 f258 f259 f260 f261 f262 f263 f264 f265 f266 f267 f268 f269 f270 f271 f272 f273 f274 f275 f276 f277 f278 f279 f280 f281 f282 f283 f284 f285 f286 f287 f288 f289 f290 f291 : Value) (wc : World) (KC : Rd9 w0 b A B M base mo li c d e x v l l wc) (hw : x.what % 8 = 3)
    (hQ : ∀ (u6 u13 u14 u15 u16 u17 u18 u19 u20 u21 u22 u23 u24 u25 u26 u68 u69 u70 u71 u72 u73 u74 u75 u76 u77 u78 u79 u80 u81 u82 u83 u84 u85 u86 u87 u88 u89 u90 u91 u92 u93 u94 u95 u96 u97 u98 u99 u100 u101 u102 u103 u104 u105 u106 u107 u108 u109 u110 u111 u112 : Value) (u113 u114 u115 u116 u117 u118 u119 u120 u121 u122 u123 u124 u125 u126 u127 u128 u129 u130 u131 u132 u133 u134 u135 u136 u137 u138 u139 u140 u141 u142 u143 u144 u145 u146 u147 u148 u149 u150 u151 u152 u153 u154 u155 u156 u157 u158 u159 u160 u161 u162 u163 u164 u165 u166 u167 u168 u169 u170 u171 u172 : Value) (u173 u174 u175 u176 u177 u178 u179 u180 u181 u182 u183 u184 u185 u186 u187 u188 u189 u190 u191 u192 u193 u194 u195 u196 u197 u198 u199 u200 u201 u202 u203 u204 u205 u206 u207 u208 u209 u210 u211 u212 u213 u214 u215 u216 u217 u218 u219 u220 u221 u222 u223 u224 u225 u226 u227 u228 u229 u230 u231 u232 : Value) (u233 u234 u235 u236 u237 u238 u239 u240 u241 u242 u243 u244 u245 u246 u247 u248 u249 u250 : Value) (v' : Value) (l' : List En) (wx : World), Two9 w0 b A B M base mo li v' l' l' wx → Gd mo li l' → Q .normal { tmps := #[f0, f1, f2, f3, f4, f5, u6, .pointer (some ⟨b, 0, none⟩), .pointer (some ⟨M, 0, none⟩), f9, .pointer (some ⟨c, 0, none⟩), .pointer (some ⟨d, 0, none⟩), .pointer (some ⟨e, 0, none⟩), u13, u14, u15, u16, u17, u18, u19, u20, u21, u22, u23, u24, u25, u26, f27, f28, f29, f30, f31, f32, f33, f34, f35, f36, f37, f38, f39, f40, f41, f42, f43, f44, f45, f46, f47, f48, f49, f50, f51, f52, f53, f54, f55, f56, f57, f58, f59, f60, f61, f62, f63, f64, f65, f66, f67, u68, u69, u70, u71, u72, u73, u74, u75, u76, u77, u78, u79, u80, u81, u82, u83, u84, u85, u86, u87, u88, u89, u90, u91, u92, u93, u94, u95, u96, u97, u98, u99, u100, u101, u102, u103, u104, u105, u106, u107, u108, u109, u110, u111, u112, u113, u114, u115, u116, u117, u118, u119, u120, u121, u122, u123, u124, u125, u126, u127, u128, u129, u130, u131, u132, u133, u134, u135, u136, u137, u138, u139, u140, u141, u142, u143, u144, u145, u146, u147, u148, u149, u150, u151, u152, u153, u154, u155, u156, u157, u158, u159, u160, u161, u162, u163, u164, u165, u166, u167, u168, u169, u170, u171, u172, u173, u174, u175, u176, u177, u178, u179, u180, u181, u182, u183, u184, u185, u186, u187, u188, u189, u190, u191, u192, u193, u194, u195, u196, u197, u198, u199, u200, u201, u202, u203, u204, u205, u206, u207, u208, u209, u210, u211, u212, u213, u214, u215, u216, u217, u218, u219, u220, u221, u222, u223, u224, u225, u226, u227, u228, u229, u230, u231, u232, u233, u234, u235, u236, u237, u238, u239, u240, u241, u242, u243, u244, u245, u246, u247, u248, u249, u250, f251, f252, f253, f254, f255, f256, f257, f258, f259, f260, f261, f262, f263, f264, f265, f266, f267, f268, f269, f270, f271, f272, f273, f274, f275, f276, f277, f278, f279, f280, f281, f282, f283, f284, f285, f286, f287, f288, f289, f290, f291], defers := [] } wx)
    (hQC : ∀ (u6 u13 u14 u15 u16 u17 u18 u19 u20 u21 u22 u23 u24 u25 u26 u68 u69 u70 u71 u72 u73 u74 u75 u76 u77 u78 u79 u80 u81 u82 u83 u84 u85 u86 u87 u88 u89 u90 u91 u92 u93 u94 u95 u96 u97 u98 u99 u100 u101 u102 u103 u104 u105 u106 u107 u108 u109 u110 u111 u112 : Value) (u113 u114 u115 u116 u117 u118 u119 u120 u121 u122 u123 u124 u125 u126 u127 u128 u129 u130 u131 u132 u133 u134 u135 u136 u137 u138 u139 u140 u141 u142 u143 u144 u145 u146 u147 u148 u149 u150 u151 u152 u153 u154 u155 u156 u157 u158 u159 u160 u161 u162 u163 u164 u165 u166 u167 u168 u169 u170 u171 u172 : Value) (u173 u174 u175 u176 u177 u178 u179 u180 u181 u182 u183 u184 u185 u186 u187 u188 u189 u190 u191 u192 u193 u194 u195 u196 u197 u198 u199 u200 u201 u202 u203 u204 u205 u206 u207 u208 u209 u210 u211 u212 u213 u214 u215 u216 u217 u218 u219 u220 u221 u222 u223 u224 u225 u226 u227 u228 u229 u230 u231 u232 : Value) (u233 u234 u235 u236 u237 u238 u239 u240 u241 u242 u243 u244 u245 u246 u247 u248 u249 u250 : Value) (wx : World), Two9 w0 b A B M base mo li v l l wx → Q (.exit 1) { tmps := #[f0, f1, f2, f3, f4, f5, u6, .pointer (some ⟨b, 0, none⟩), .pointer (some ⟨M, 0, none⟩), f9, .pointer (some ⟨c, 0, none⟩), .pointer (some ⟨d, 0, none⟩), .pointer (some ⟨e, 0, none⟩), u13, u14, u15, u16, u17, u18, u19, u20, u21, u22, u23, u24, u25, u26, f27, f28, f29, f30, f31, f32, f33, f34, f35, f36, f37, f38, f39, f40, f41, f42, f43, f44, f45, f46, f47, f48, f49, f50, f51, f52, f53, f54, f55, f56, f57, f58, f59, f60, f61, f62, f63, f64, f65, f66, f67, u68, u69, u70, u71, u72, u73, u74, u75, u76, u77, u78, u79, u80, u81, u82, u83, u84, u85, u86, u87, u88, u89, u90, u91, u92, u93, u94, u95, u96, u97, u98, u99, u100, u101, u102, u103, u104, u105, u106, u107, u108, u109, u110, u111, u112, u113, u114, u115, u116, u117, u118, u119, u120, u121, u122, u123, u124, u125, u126, u127, u128, u129, u130, u131, u132, u133, u134, u135, u136, u137, u138, u139, u140, u141, u142, u143, u144, u145, u146, u147, u148, u149, u150, u151, u152, u153, u154, u155, u156, u157, u158, u159, u160, u161, u162, u163, u164, u165, u166, u167, u168, u169, u170, u171, u172, u173, u174, u175, u176, u177, u178, u179, u180, u181, u182, u183, u184, u185, u186, u187, u188, u189, u190, u191, u192, u193, u194, u195, u196, u197, u198, u199, u200, u201, u202, u203, u204, u205, u206, u207, u208, u209, u210, u211, u212, u213, u214, u215, u216, u217, u218, u219, u220, u221, u222, u223, u224, u225, u226, u227, u228, u229, u230, u231, u232, u233, u234, u235, u236, u237, u238, u239, u240, u241, u242, u243, u244, u245, u246, u247, u248, u249, u250, f251, f252, f253, f254, f255, f256, f257, f258, f259, f260, f261, f262, f263, f264, f265, f266, f267, f268, f269, f270, f271, f272, f273, f274, f275, f276, f277, f278, f279, f280, f281, f282, f283, f284, f285, f286, f287, f288, f289, f290, f291], defers := [] } wx) :
    Code.wp Try.prog (tail9 11) Q { tmps := #[f0, f1, f2, f3, f4, f5, f6, .pointer (some ⟨b, 0, none⟩), .pointer (some ⟨M, 0, none⟩), f9, .pointer (some ⟨c, 0, none⟩), .pointer (some ⟨d, 0, none⟩), .pointer (some ⟨e, 0, none⟩), .int .i64 0, .int .i64 0, f15, f16, f17, f18, f19, f20, f21, f22, f23, f24, f25, f26, f27, f28, f29, f30, f31, f32, f33, f34, f35, f36, f37, f38, f39, f40, f41, f42, f43, f44, f45, f46, f47, f48, f49, f50, f51, f52, f53, f54, f55, f56, f57, f58, f59, f60, f61, f62, f63, f64, f65, f66, f67, f68, f69, f70, f71, f72, f73, f74, f75, f76, f77, f78, f79, f80, f81, f82, f83, f84, f85, f86, f87, f88, f89, f90, f91, f92, f93, f94, f95, f96, f97, f98, f99, f100, f101, f102, f103, f104, f105, f106, f107, f108, f109, f110, f111, f112, f113, f114, f115, f116, f117, f118, f119, f120, f121, f122, f123, f124, f125, f126, f127, f128, f129, f130, f131, f132, f133, f134, f135, f136, f137, f138, f139, f140, f141, f142, f143, f144, f145, f146, f147, f148, f149, f150, f151, f152, f153, f154, f155, f156, f157, f158, f159, f160, f161, f162, f163, f164, f165, f166, f167, f168, f169, f170, f171, f172, f173, f174, f175, f176, f177, f178, f179, f180, f181, f182, f183, f184, f185, f186, f187, f188, f189, f190, f191, f192, f193, f194, f195, f196, f197, f198, f199, f200, f201, f202, f203, f204, f205, f206, f207, f208, f209, f210, f211, f212, f213, f214, f215, f216, f217, f218, f219, f220, f221, f222, f223, f224, f225, f226, f227, f228, f229, f230, f231, f232, f233, f234, f235, f236, f237, f238, f239, f240, f241, f242, f243, f244, f245, f246, f247, f248, f249, f250, f251, f252, f253, f254, f255, f256, f257, f258, f259, f260, f261, f262, f263, f264, f265, f266, f267, f268, f269, f270, f271, f272, f273, f274, f275, f276, f277, f278, f279, f280, f281, f282, f283, f284, f285, f286, f287, f288, f289, f290, f291], defers := [] } wc := by
    have K0 := Lib.hid KC
    have HQ := Lib.hid hQ
    have HQC := Lib.hid hQC
    have SZF := Lib.hid fdSize
    have SZE := Lib.hid enSize
    have hc0 : wc.cell? ⟨c, 0, none⟩ = some (.int .u8 (x.what : Nat)) := KC.act.cell 0
    clear KC hQ hQC
    conv => arg 2; whnf
    conv => arg 4; zeta
    have e3 : ((x.what : Int) % 8 == 3) = true := by simp; omega
    have TK := Lib.hid (show Calls Try.prog 11 #[.pointer (some ⟨b, 0, none⟩)] wc fun e' w' => e' = .returned (.int .i64 ((l.length : Int) - (tickL li l).length)) ∧ Rd9 w0 b A B M base mo li c d e x v (tickL li l) l w' from
      (tick_tf K0.out.two.tab (by have := K0.out.two.low; omega) (by have := HG.out.few; have := MO.out; omega) (fun y hy => by have := HG.out.age y hy; have := LI.out; omega)).mono fun e' w' ⟨q1, q2, q3⟩ => ⟨by rw [q1, (tick_same l li).2], K0.out.prog (by rw [← (tick_same l li).1]; exact q2) q3⟩)
    go_upto_region 19 with (go_at_call 11; refine TK.out.mono ?_; rintro e' w5 ⟨rfl, hR5⟩)
    rename ∀ (a : Act) (w : World), Code.wp Try.prog (tail9 39) Q a w → _ => hK39
    have HK39 := Lib.hid hK39
    clear hK39
    have R5 := Lib.hid hR5
    clear hR5 hc0
    have RT := Lib.hid (rtick9 base mo li v l w5 R5.out.two.own (fun y hy => by have := HG.out.age y hy; have := LI.out; omega) R5.out.two.low.2.2.2.2 (by have := HG.out.few; have := MO.out; omega))
    go_wp2_with (first
      | (refine wpList_load_row rfl 28 _ rfl M rfl 28 #[.int .i64 mo, .int .i64 li, v] (0, 0) _ R5.out.two.blk Try.underlying28 rfl SZF.out ?_)
      | (go_at_call 12; refine RT.out.mono ?_; rintro e' w6 ⟨v2, rfl, o6, hb6⟩; have O6 := Lib.hid o6; have R6 := Lib.hid (R5.out.next hb6); clear o6 hb6)
      | (refine wpList_store_row rfl 28 _ _ rfl M #[.int .i64 mo, .int .i64 li, v2] rfl rfl 28 #[.int .i64 mo, .int .i64 li, v] R6.out.two.blk SZF.out rfl (fd_one mo li O6.out) ?_))
    have T7 := Lib.hid (R6.out.two.model O6.out)
    refine HK39.out _ _ (t39 w0 b A B M base mo li v2 (tickL li l) _ Q _ _ _ _ _ _ _ _ _ _ _ _ _ _ _ _ _ _ _ _ _ _ _ _ _ _ _ _ _ _ _ _ _ _ _ _ _ _ _ _ _ _ _ _ _ _ _ _ _ _ _ _ _ _ _ _ _ _ _ _ _ _ _ _ _ _ _ _ _ _ _ _ _ _ _ _ _ _ _ _ _ _ _ _ _ _ _ _ _ _ _ _ _ _ _ _ _ _ _ _ _ _ _ _ _ _ _ _ _ _ _ _ _ _ _ _ _ _ _ _ _ _ _ _ _ _ _ _ _ _ _ _ _ _ _ _ _ _ _ _ _ _ _ _ _ _ _ _ _ _ _ _ _ _ _ _ _ _ _ _ _ _ _ _ _ _ _ _ _ _ _ _ _ _ _ _ _ _ _ _ _ _ _ _ _ _ _ _ _ _ _ _ _ _ _ _ _ _ _ _ _ _ _ _ _ _ _ _ _ _ _ _ _ _ _ _ _ _ _ _ _ _ _ _ _ _ _ _ _ _ _ _ _ _ _ _ _ _ _ _ _ _ _ _ _ _ _ _ _ _ _ _ _ _ _ _ _ _ _ _ _ _ _ _ _ _ _ _ _ _ _ _ _ _ _ _ _ _ _ _ _ _ _ _ _ _ _ _ _ T7.out (by have := ((show Gd mo li (tickL li l) from HG.out.tick)).few; have := MO.out; omega) ?_)
    intro z6 z25 z26 z205 z206 z207 z208 z209 z210 z211 z212 z213 z214 z215 z216 z217 z218 z219 z220 z221 z222 z223 z224 z225 z226 z227 z228 z229 z230 z231 z232 z233 z234 z235 z236 z237 z238 z239 z240 z241 z242 z243 z244 z245 z246 z247 z248 z249 z250 wx hT
    exact HQ.out _ _ _ _ _ _ _ _ _ _ _ _ _ _ _ _ _ _ _ _ _ _ _ _ _ _ _ _ _ _ _ _ _ _ _ _ _ _ _ _ _ _ _ _ _ _ _ _ _ _ _ _ _ _ _ _ _ _ _ _ _ _ _ _ _ _ _ _ _ _ _ _ _ _ _ _ _ _ _ _ _ _ _ _ _ _ _ _ _ _ _ _ _ _ _ _ _ _ _ _ _ _ _ _ _ _ _ _ _ _ _ _ _ _ _ _ _ _ _ _ _ _ _ _ _ _ _ _ _ _ _ _ _ _ _ _ _ _ _ _ _ _ _ _ _ _ _ _ _ _ _ _ _ _ _ _ _ _ _ _ _ _ _ _ _ _ _ _ _ _ _ _ _ _ _ _ _ _ _ _ _ _ _ _ _ _ _ _ _ _ _ _ _ _ _ _ _ _ _ _ wx hT ((show Gd mo li (tickL li l) from HG.out.tick))

end Go.Proofs.Ytilklfmcdgggfaa
end
section
namespace Go.Proofs.Ytilklfmcdgggfaa
open Go.RowKit
attribute [local irreducible] wpQuiet
set_option linter.unusedSimpArgs false
set_option linter.unusedVariables false

set_option maxRecDepth 100000 in
set_option maxHeartbeats 32000000 in
theorem a_drop (w0 : World) (b A B M base : Nat) (mo li : Int) (v : Value) (l : List En) (c d e : Nat) (x : Ac9) (MO : Hid (1 ≤ mo ∧ mo ≤ 64)) (LI : Hid (1 ≤ li ∧ li ≤ 1000)) (HXO : Hid (acOk9 x)) (HG : Hid (Gd mo li l)) (Q : Exit → Act → World → Prop) (f0 f1 f2 f3 f4 f5 f6 f9 f15 f16 f17 f18 f19 f20 f21 f22 f23 f24 f25 f26 f27 f28 f29 f30 f31 f32 f33 f34 f35 f36 f37 f38 f39 f40 f41 f42 f43 f44 f45 f46 f47 f48 f49 f50 f51 f52 f53 f54 f55 f56 f57 f58 f59 f60 f61 f62 f63 f64 f65 f66 : Value) (f67 f68 f69 f70 f71 f72 f73 f74 f75 f76 f77 f78 f79 f80 f81 f82 f83 f84 f85 f86 f87 f88 f89 f90 f91 f92 f93 f94 f95 f96 f97 f98 f99 f100 f101 f102 f103 f104 f105 f106 f107 f108 f109 f110 f111 f112 f113 f114 f115 f116 f117 f118 f119 f120 f121 f122 f123 f124 f125 f126 : Value) (f127 f128 f129 f130 f131 f132 f133 f134 f135 f136 f137 f138 f139 f140 f141 f142 f143 f144 f145 f146 f147 f148 f149 f150 f151 f152 f153 f154 f155 f156 f157 f158 f159 f160 f161 f162 f163 f164 f165 f166 f167 f168 f169 f170 f171 f172 f173 f174 f175 f176 f177 f178 f179 f180 f181 f182 f183 f184 f185 f186 : Value) (f187 f188 f189 f190 f191 f192 f193 f194 f195 f196 f197 f198 f199 f200 f201 f202 f203 f204 f205 f206 f207 f208 f209 f210 f211 f212 f213 f214 f215 f216 f217 f218 f219 f220 f221 f222 f223 f224 f225 f226 f227 f228 f229 f230 f231 f232 f233 f234 f235 f236 f237 f238 f239 f240 f241 f242 f243 f244 f245 f246 : Value) (f247 f248 f249 f250 f251 f252 f253 f254 f255 f256 f257 f258 f259 f260 f261 f262 f263 f264 f265 f266 f267 f268 f269 f270 f271 f272 f273 f274 f275 f276 f277 f278 f279 f280 f281 f282 f283 f284 f285 f286 f287 f288 f289 f290 f291 : Value) (wc : World) (KC : Rd9 w0 b A B M base mo li c d e x v l l wc) (hw : x.what % 8 = 5)
    (hQ : ∀ (u6 u13 u14 u15 u16 u17 u18 u19 u20 u21 u22 u23 u24 u25 u26 u68 u69 u70 u71 u72 u73 u74 u75 u76 u77 u78 u79 u80 u81 u82 u83 u84 u85 u86 u87 u88 u89 u90 u91 u92 u93 u94 u95 u96 u97 u98 u99 u100 u101 u102 u103 u104 u105 u106 u107 u108 u109 u110 u111 u112 : Value) (u113 u114 u115 u116 u117 u118 u119 u120 u121 u122 u123 u124 u125 u126 u127 u128 u129 u130 u131 u132 u133 u134 u135 u136 u137 u138 u139 u140 u141 u142 u143 u144 u145 u146 u147 u148 u149 u150 u151 u152 u153 u154 u155 u156 u157 u158 u159 u160 u161 u162 u163 u164 u165 u166 u167 u168 u169 u170 u171 u172 : Value) (u173 u174 u175 u176 u177 u178 u179 u180 u181 u182 u183 u184 u185 u186 u187 u188 u189 u190 u191 u192 u193 u194 u195 u196 u197 u198 u199 u200 u201 u202 u203 u204 u205 u206 u207 u208 u209 u210 u211 u212 u213 u214 u215 u216 u217 u218 u219 u220 u221 u222 u223 u224 u225 u226 u227 u228 u229 u230 u231 u232 : Value) (u233 u234 u235 u236 u237 u238 u239 u240 u241 u242 u243 u244 u245 u246 u247 u248 u249 u250 : Value) (v' : Value) (l' : List En) (wx : World), Two9 w0 b A B M base mo li v' l' l' wx → Gd mo li l' → Q .normal { tmps := #[f0, f1, f2, f3, f4, f5, u6, .pointer (some ⟨b, 0, none⟩), .pointer (some ⟨M, 0, none⟩), f9, .pointer (some ⟨c, 0, none⟩), .pointer (some ⟨d, 0, none⟩), .pointer (some ⟨e, 0, none⟩), u13, u14, u15, u16, u17, u18, u19, u20, u21, u22, u23, u24, u25, u26, f27, f28, f29, f30, f31, f32, f33, f34, f35, f36, f37, f38, f39, f40, f41, f42, f43, f44, f45, f46, f47, f48, f49, f50, f51, f52, f53, f54, f55, f56, f57, f58, f59, f60, f61, f62, f63, f64, f65, f66, f67, u68, u69, u70, u71, u72, u73, u74, u75, u76, u77, u78, u79, u80, u81, u82, u83, u84, u85, u86, u87, u88, u89, u90, u91, u92, u93, u94, u95, u96, u97, u98, u99, u100, u101, u102, u103, u104, u105, u106, u107, u108, u109, u110, u111, u112, u113, u114, u115, u116, u117, u118, u119, u120, u121, u122, u123, u124, u125, u126, u127, u128, u129, u130, u131, u132, u133, u134, u135, u136, u137, u138, u139, u140, u141, u142, u143, u144, u145, u146, u147, u148, u149, u150, u151, u152, u153, u154, u155, u156, u157, u158, u159, u160, u161, u162, u163, u164, u165, u166, u167, u168, u169, u170, u171, u172, u173, u174, u175, u176, u177, u178, u179, u180, u181, u182, u183, u184, u185, u186, u187, u188, u189, u190, u191, u192, u193, u194, u195, u196, u197, u198, u199, u200, u201, u202, u203, u204, u205, u206, u207, u208, u209, u210, u211, u212, u213, u214, u215, u216, u217, u218, u219, u220, u221, u222, u223, u224, u225, u226, u227, u228, u229, u230, u231, u232, u233, u234, u235, u236, u237, u238, u239, u240, u241, u242, u243, u244, u245, u246, u247, u248, u249, u250, f251, f252, f253, f254, f255, f256, f257, f258, f259, f260, f261, f262, f263, f264, f265, f266, f267, f268, f269, f270, f271, f272, f273, f274, f275, f276, f277, f278, f279, f280, f281, f282, f283, f284, f285, f286, f287, f288, f289, f290, f291], defers := [] } wx)
    (hQC : ∀ (u6 u13 u14 u15 u16 u17 u18 u19 u20 u21 u22 u23 u24 u25 u26 u68 u69 u70 u71 u72 u73 u74 u75 u76 u77 u78 u79 u80 u81 u82 u83 u84 u85 u86 u87 u88 u89 u90 u91 u92 u93 u94 u95 u96 u97 u98 u99 u100 u101 u102 u103 u104 u105 u106 u107 u108 u109 u110 u111 u112 : Value) (u113 u114 u115 u116 u117 u118 u119 u120 u121 u122 u123 u124 u125 u126 u127 u128 u129 u130 u131 u132 u133 u134 u135 u136 u137 u138 u139 u140 u141 u142 u143 u144 u145 u146 u147 u148 u149 u150 u151 u152 u153 u154 u155 u156 u157 u158 u159 u160 u161 u162 u163 u164 u165 u166 u167 u168 u169 u170 u171 u172 : Value) (u173 u174 u175 u176 u177 u178 u179 u180 u181 u182 u183 u184 u185 u186 u187 u188 u189 u190 u191 u192 u193 u194 u195 u196 u197 u198 u199 u200 u201 u202 u203 u204 u205 u206 u207 u208 u209 u210 u211 u212 u213 u214 u215 u216 u217 u218 u219 u220 u221 u222 u223 u224 u225 u226 u227 u228 u229 u230 u231 u232 : Value) (u233 u234 u235 u236 u237 u238 u239 u240 u241 u242 u243 u244 u245 u246 u247 u248 u249 u250 : Value) (wx : World), Two9 w0 b A B M base mo li v l l wx → Q (.exit 1) { tmps := #[f0, f1, f2, f3, f4, f5, u6, .pointer (some ⟨b, 0, none⟩), .pointer (some ⟨M, 0, none⟩), f9, .pointer (some ⟨c, 0, none⟩), .pointer (some ⟨d, 0, none⟩), .pointer (some ⟨e, 0, none⟩), u13, u14, u15, u16, u17, u18, u19, u20, u21, u22, u23, u24, u25, u26, f27, f28, f29, f30, f31, f32, f33, f34, f35, f36, f37, f38, f39, f40, f41, f42, f43, f44, f45, f46, f47, f48, f49, f50, f51, f52, f53, f54, f55, f56, f57, f58, f59, f60, f61, f62, f63, f64, f65, f66, f67, u68, u69, u70, u71, u72, u73, u74, u75, u76, u77, u78, u79, u80, u81, u82, u83, u84, u85, u86, u87, u88, u89, u90, u91, u92, u93, u94, u95, u96, u97, u98, u99, u100, u101, u102, u103, u104, u105, u106, u107, u108, u109, u110, u111, u112, u113, u114, u115, u116, u117, u118, u119, u120, u121, u122, u123, u124, u125, u126, u127, u128, u129, u130, u131, u132, u133, u134, u135, u136, u137, u138, u139, u140, u141, u142, u143, u144, u145, u146, u147, u148, u149, u150, u151, u152, u153, u154, u155, u156, u157, u158, u159, u160, u161, u162, u163, u164, u165, u166, u167, u168, u169, u170, u171, u172, u173, u174, u175, u176, u177, u178, u179, u180, u181, u182, u183, u184, u185, u186, u187, u188, u189, u190, u191, u192, u193, u194, u195, u196, u197, u198, u199, u200, u201, u202, u203, u204, u205, u206, u207, u208, u209, u210, u211, u212, u213, u214, u215, u216, u217, u218, u219, u220, u221, u222, u223, u224, u225, u226, u227, u228, u229, u230, u231, u232, u233, u234, u235, u236, u237, u238, u239, u240, u241, u242, u243, u244, u245, u246, u247, u248, u249, u250, f251, f252, f253, f254, f255, f256, f257, f258, f259, f260, f261, f262, f263, f264, f265, f266, f267, f268, f269, f270, f271, f272, f273, f274, f275, f276, f277, f278, f279, f280, f281, f282, f283, f284, f285, f286, f287, f288, f289, f290, f291], defers := [] } wx) :
    Code.wp Try.prog (tail9 11) Q { tmps := #[f0, f1, f2, f3, f4, f5, f6, .pointer (some ⟨b, 0, none⟩), .pointer (some ⟨M, 0, none⟩), f9, .pointer (some ⟨c, 0, none⟩), .pointer (some ⟨d, 0, none⟩), .pointer (some ⟨e, 0, none⟩), .int .i64 0, .int .i64 0, f15, f16, f17, f18, f19, f20, f21, f22, f23, f24, f25, f26, f27, f28, f29, f30, f31, f32, f33, f34, f35, f36, f37, f38, f39, f40, f41, f42, f43, f44, f45, f46, f47, f48, f49, f50, f51, f52, f53, f54, f55, f56, f57, f58, f59, f60, f61, f62, f63, f64, f65, f66, f67, f68, f69, f70, f71, f72, f73, f74, f75, f76, f77, f78, f79, f80, f81, f82, f83, f84, f85, f86, f87, f88, f89, f90, f91, f92, f93, f94, f95, f96, f97, f98, f99, f100, f101, f102, f103, f104, f105, f106, f107, f108, f109, f110, f111, f112, f113, f114, f115, f116, f117, f118, f119, f120, f121, f122, f123, f124, f125, f126, f127, f128, f129, f130, f131, f132, f133, f134, f135, f136, f137, f138, f139, f140, f141, f142, f143, f144, f145, f146, f147, f148, f149, f150, f151, f152, f153, f154, f155, f156, f157, f158, f159, f160, f161, f162, f163, f164, f165, f166, f167, f168, f169, f170, f171, f172, f173, f174, f175, f176, f177, f178, f179, f180, f181, f182, f183, f184, f185, f186, f187, f188, f189, f190, f191, f192, f193, f194, f195, f196, f197, f198, f199, f200, f201, f202, f203, f204, f205, f206, f207, f208, f209, f210, f211, f212, f213, f214, f215, f216, f217, f218, f219, f220, f221, f222, f223, f224, f225, f226, f227, f228, f229, f230, f231, f232, f233, f234, f235, f236, f237, f238, f239, f240, f241, f242, f243, f244, f245, f246, f247, f248, f249, f250, f251, f252, f253, f254, f255, f256, f257, f258, f259, f260, f261, f262, f263, f264, f265, f266, f267, f268, f269, f270, f271, f272, f273, f274, f275, f276, f277, f278, f279, f280, f281, f282, f283, f284, f285, f286, f287, f288, f289, f290, f291], defers := [] } wc := by
    have K0 := Lib.hid KC
    have HQ := Lib.hid hQ
    have HQC := Lib.hid hQC
    have SZF := Lib.hid fdSize
    have SZE := Lib.hid enSize
    have hc0 : wc.cell? ⟨c, 0, none⟩ = some (.int .u8 (x.what : Nat)) := KC.act.cell 0
    clear KC hQ hQC
    conv => arg 2; whnf
    conv => arg 4; zeta
    have e3 : ((x.what : Int) % 8 == 3) = false := by simp; omega
    have e4 : ((x.what : Int) % 8 == 4) = false := by simp; omega
    have e5 : ((x.what : Int) % 8 == 5) = true := by simp; omega
    have TK := Lib.hid (show Calls Try.prog 15 #[.pointer (some ⟨b, 0, none⟩), .int .u16 (x.vid : Nat)] wc fun e' w' => e' = .returned (.int .i64 ((l.length : Int) - (flushL 0 x.vid l).length)) ∧ Rd9 w0 b A B M base mo li c d e x v (flushL 0 x.vid l) l w' from
      (drop_tf x.vid K0.out.two.tab (by have := K0.out.two.low; omega) (by have := HG.out.few; have := MO.out; omega)).mono fun e' w' ⟨q1, q2, q3⟩ => ⟨by rw [q1, (drop_same l x.vid).2], K0.out.prog (by rw [← (drop_same l x.vid).1]; exact q2) q3⟩)
    have hc1 : wc.cell? ⟨c, 1, none⟩ = some (.int .u16 (x.vid : Nat)) := K0.out.act.cell 1
    go_upto_region 28 with (go_at_call 15; refine TK.out.mono ?_; rintro e' w5 ⟨rfl, hR5⟩)
    rename ∀ (a : Act) (w : World), Code.wp Try.prog (tail9 39) Q a w → _ => hK39
    have HK39 := Lib.hid hK39
    clear hK39
    have R5 := Lib.hid hR5
    clear hR5 hc0 hc1
    have hc1 : w5.cell? ⟨c, 1, none⟩ = some (.int .u16 (x.vid : Nat)) := R5.out.act.cell 1
    have RT := Lib.hid (rflush9 base mo li 0 x.vid v l w5 R5.out.two.own R5.out.two.low.2.2.2.2 (by have := HG.out.few; have := MO.out; omega))
    go_wp2_with (first
      | (refine wpList_load_row rfl 28 _ rfl M rfl 28 #[.int .i64 mo, .int .i64 li, v] (0, 0) _ R5.out.two.blk Try.underlying28 rfl SZF.out ?_)
      | (go_at_call 14; refine RT.out.mono ?_; rintro e' w6 ⟨v2, rfl, o6, hb6⟩; have O6 := Lib.hid o6; have R6 := Lib.hid (R5.out.next hb6); clear o6 hb6)
      | (refine wpList_store_row rfl 28 _ _ rfl M #[.int .i64 mo, .int .i64 li, v2] rfl rfl 28 #[.int .i64 mo, .int .i64 li, v] R6.out.two.blk SZF.out rfl (fd_one mo li O6.out) ?_))
    have T7 := Lib.hid (R6.out.two.model O6.out)
    refine HK39.out _ _ (t39 w0 b A B M base mo li v2 (flushL 0 x.vid l) _ Q _ _ _ _ _ _ _ _ _ _ _ _ _ _ _ _ _ _ _ _ _ _ _ _ _ _ _ _ _ _ _ _ _ _ _ _ _ _ _ _ _ _ _ _ _ _ _ _ _ _ _ _ _ _ _ _ _ _ _ _ _ _ _ _ _ _ _ _ _ _ _ _ _ _ _ _ _ _ _ _ _ _ _ _ _ _ _ _ _ _ _ _ _ _ _ _ _ _ _ _ _ _ _ _ _ _ _ _ _ _ _ _ _ _ _ _ _ _ _ _ _ _ _ _ _ _ _ _ _ _ _ _ _ _ _ _ _ _ _ _ _ _ _ _ _ _ _ _ _ _ _ _ _ _ _ _ _ _ _ _ _ _ _ _ _ _ _ _ _ _ _ _ _ _ _ _ _ _ _ _ _ _ _ _ _ _ _ _ _ _ _ _ _ _ _ _ _ _ _ _ _ _ _ _ _ _ _ _ _ _ _ _ _ _ _ _ _ _ _ _ _ _ _ _ _ _ _ _ _ _ _ _ _ _ _ _ _ _ _ _ _ _ _ _ _ _ _ _ _ _ _ _ _ _ _ _ _ _ _ _ _ _ _ _ _ _ _ _ _ _ _ _ _ _ _ _ _ _ _ _ _ _ _ _ _ _ _ _ _ T7.out (by have := ((show Gd mo li (flushL 0 x.vid l) from HG.out.filter _)).few; have := MO.out; omega) ?_)
    intro z6 z25 z26 z205 z206 z207 z208 z209 z210 z211 z212 z213 z214 z215 z216 z217 z218 z219 z220 z221 z222 z223 z224 z225 z226 z227 z228 z229 z230 z231 z232 z233 z234 z235 z236 z237 z238 z239 z240 z241 z242 z243 z244 z245 z246 z247 z248 z249 z250 wx hT
    exact HQ.out _ _ _ _ _ _ _ _ _ _ _ _ _ _ _ _ _ _ _ _ _ _ _ _ _ _ _ _ _ _ _ _ _ _ _ _ _ _ _ _ _ _ _ _ _ _ _ _ _ _ _ _ _ _ _ _ _ _ _ _ _ _ _ _ _ _ _ _ _ _ _ _ _ _ _ _ _ _ _ _ _ _ _ _ _ _ _ _ _ _ _ _ _ _ _ _ _ _ _ _ _ _ _ _ _ _ _ _ _ _ _ _ _ _ _ _ _ _ _ _ _ _ _ _ _ _ _ _ _ _ _ _ _ _ _ _ _ _ _ _ _ _ _ _ _ _ _ _ _ _ _ _ _ _ _ _ _ _ _ _ _ _ _ _ _ _ _ _ _ _ _ _ _ _ _ _ _ _ _ _ _ _ _ _ _ _ _ _ _ _ _ _ _ _ _ _ _ _ _ _ wx hT ((show Gd mo li (flushL 0 x.vid l) from HG.out.filter _))

end Go.Proofs.Ytilklfmcdgggfaa
end
section
namespace Go.Proofs.Ytilklfmcdgggfaa
open Go.RowKit
attribute [local irreducible] wpQuiet
set_option linter.unusedSimpArgs false
set_option linter.unusedVariables false

set_option maxRecDepth 100000 in
set_option maxHeartbeats 32000000 in
theorem a_flush (w0 : World) (b A B M base : Nat) (mo li : Int) (v : Value) (l : List En) (c d e : Nat) (x : Ac9) (MO : Hid (1 ≤ mo ∧ mo ≤ 64)) (LI : Hid (1 ≤ li ∧ li ≤ 1000)) (HXO : Hid (acOk9 x)) (HG : Hid (Gd mo li l)) (Q : Exit → Act → World → Prop) (f0 f1 f2 f3 f4 f5 f6 f9 f15 f16 f17 f18 f19 f20 f21 f22 f23 f24 f25 f26 f27 f28 f29 f30 f31 f32 f33 f34 f35 f36 f37 f38 f39 f40 f41 f42 f43 f44 f45 f46 f47 f48 f49 f50 f51 f52 f53 f54 f55 f56 f57 f58 f59 f60 f61 f62 f63 f64 f65 f66 : Value) (f67 f68 f69 f70 f71 f72 f73 f74 f75 f76 f77 f78 f79 f80 f81 f82 f83 f84 f85 f86 f87 f88 f89 f90 f91 f92 f93 f94 f95 f96 f97 f98 f99 f100 f101 f102 f103 f104 f105 f106 f107 f108 f109 f110 f111 f112 f113 f114 f115 f116 f117 f118 f119 f120 f121 f122 f123 f124 f125 f126 : Value) (f127 f128 f129 f130 f131 f132 f133 f134 f135 f136 f137 f138 f139 f140 f141 f142 f143 f144 f145 f146 f147 f148 f149 f150 f151 f152 f153 f154 f155 f156 f157 f158 f159 f160 f161 f162 f163 f164 f165 f166 f167 f168 f169 f170 f171 f172 f173 f174 f175 f176 f177 f178 f179 f180 f181 f182 f183 f184 f185 f186 : Value) (f187 f188 f189 f190 f191 f192 f193 f194 f195 f196 f197 f198 f199 f200 f201 f202 f203 f204 f205 f206 f207 f208 f209 f210 f211 f212 f213 f214 f215 f216 f217 f218 f219 f220 f221 f222 f223 f224 f225 f226 f227 f228 f229 f230 f231 f232 f233 f234 f235 f236 f237 f238 f239 f240 f241 f242 f243 f244 f245 f246 : Value) (f247 f248 f249 f250 f251 f252 f253 f254 f255 f256 f257 f258 f259 f260 f261 f262 f263 f264 f265 f266 f267 f268 f269 f270 f271 f272 f273 f274 f275 f276 f277 f278 f279 f280 f281 f282 f283 f284 f285 f286 f287 f288 f289 f290 f291 : Value) (wc : World) (KC : Rd9 w0 b A B M base mo li c d e x v l l wc) (hw : x.what % 8 = 4)
    (hQ : ∀ (u6 u13 u14 u15 u16 u17 u18 u19 u20 u21 u22 u23 u24 u25 u26 u68 u69 u70 u71 u72 u73 u74 u75 u76 u77 u78 u79 u80 u81 u82 u83 u84 u85 u86 u87 u88 u89 u90 u91 u92 u93 u94 u95 u96 u97 u98 u99 u100 u101 u102 u103 u104 u105 u106 u107 u108 u109 u110 u111 u112 : Value) (u113 u114 u115 u116 u117 u118 u119 u120 u121 u122 u123 u124 u125 u126 u127 u128 u129 u130 u131 u132 u133 u134 u135 u136 u137 u138 u139 u140 u141 u142 u143 u144 u145 u146 u147 u148 u149 u150 u151 u152 u153 u154 u155 u156 u157 u158 u159 u160 u161 u162 u163 u164 u165 u166 u167 u168 u169 u170 u171 u172 : Value) (u173 u174 u175 u176 u177 u178 u179 u180 u181 u182 u183 u184 u185 u186 u187 u188 u189 u190 u191 u192 u193 u194 u195 u196 u197 u198 u199 u200 u201 u202 u203 u204 u205 u206 u207 u208 u209 u210 u211 u212 u213 u214 u215 u216 u217 u218 u219 u220 u221 u222 u223 u224 u225 u226 u227 u228 u229 u230 u231 u232 : Value) (u233 u234 u235 u236 u237 u238 u239 u240 u241 u242 u243 u244 u245 u246 u247 u248 u249 u250 : Value) (v' : Value) (l' : List En) (wx : World), Two9 w0 b A B M base mo li v' l' l' wx → Gd mo li l' → Q .normal { tmps := #[f0, f1, f2, f3, f4, f5, u6, .pointer (some ⟨b, 0, none⟩), .pointer (some ⟨M, 0, none⟩), f9, .pointer (some ⟨c, 0, none⟩), .pointer (some ⟨d, 0, none⟩), .pointer (some ⟨e, 0, none⟩), u13, u14, u15, u16, u17, u18, u19, u20, u21, u22, u23, u24, u25, u26, f27, f28, f29, f30, f31, f32, f33, f34, f35, f36, f37, f38, f39, f40, f41, f42, f43, f44, f45, f46, f47, f48, f49, f50, f51, f52, f53, f54, f55, f56, f57, f58, f59, f60, f61, f62, f63, f64, f65, f66, f67, u68, u69, u70, u71, u72, u73, u74, u75, u76, u77, u78, u79, u80, u81, u82, u83, u84, u85, u86, u87, u88, u89, u90, u91, u92, u93, u94, u95, u96, u97, u98, u99, u100, u101, u102, u103, u104, u105, u106, u107, u108, u109, u110, u111, u112, u113, u114, u115, u116, u117, u118, u119, u120, u121, u122, u123, u124, u125, u126, u127, u128, u129, u130, u131, u132, u133, u134, u135, u136, u137, u138, u139, u140, u141, u142, u143, u144, u145, u146, u147, u148, u149, u150, u151, u152, u153, u154, u155, u156, u157, u158, u159, u160, u161, u162, u163, u164, u165, u166, u167, u168, u169, u170, u171, u172, u173, u174, u175, u176, u177, u178, u179, u180, u181, u182, u183, u184, u185, u186, u187, u188, u189, u190, u191, u192, u193, u194, u195, u196, u197, u198, u199, u200, u201, u202, u203, u204, u205, u206, u207, u208, u209, u210, u211, u212, u213, u214, u215, u216, u217, u218, u219, u220, u221, u222, u223, u224, u225, u226, u227, u228, u229, u230, u231, u232, u233, u234, u235, u236, u237, u238, u239, u240, u241, u242, u243, u244, u245, u246, u247, u248, u249, u250, f251, f252, f253, f254, f255, f256, f257, f258, f259, f260, f261, f262, f263, f264, f265, f266, f267, f268, f269, f270, f271, f272, f273, f274, f275, f276, f277, f278, f279, f280, f281, f282, f283, f284, f285, f286, f287, f288, f289, f290, f291], defers := [] } wx)
    (hQC : ∀ (u6 u13 u14 u15 u16 u17 u18 u19 u20 u21 u22 u23 u24 u25 u26 u68 u69 u70 u71 u72 u73 u74 u75 u76 u77 u78 u79 u80 u81 u82 u83 u84 u85 u86 u87 u88 u89 u90 u91 u92 u93 u94 u95 u96 u97 u98 u99 u100 u101 u102 u103 u104 u105 u106 u107 u108 u109 u110 u111 u112 : Value) (u113 u114 u115 u116 u117 u118 u119 u120 u121 u122 u123 u124 u125 u126 u127 u128 u129 u130 u131 u132 u133 u134 u135 u136 u137 u138 u139 u140 u141 u142 u143 u144 u145 u146 u147 u148 u149 u150 u151 u152 u153 u154 u155 u156 u157 u158 u159 u160 u161 u162 u163 u164 u165 u166 u167 u168 u169 u170 u171 u172 : Value) (u173 u174 u175 u176 u177 u178 u179 u180 u181 u182 u183 u184 u185 u186 u187 u188 u189 u190 u191 u192 u193 u194 u195 u196 u197 u198 u199 u200 u201 u202 u203 u204 u205 u206 u207 u208 u209 u210 u211 u212 u213 u214 u215 u216 u217 u218 u219 u220 u221 u222 u223 u224 u225 u226 u227 u228 u229 u230 u231 u232 : Value) (u233 u234 u235 u236 u237 u238 u239 u240 u241 u242 u243 u244 u245 u246 u247 u248 u249 u250 : Value) (wx : World), Two9 w0 b A B M base mo li v l l wx → Q (.exit 1) { tmps := #[f0, f1, f2, f3, f4, f5, u6, .pointer (some ⟨b, 0, none⟩), .pointer (some ⟨M, 0, none⟩), f9, .pointer (some ⟨c, 0, none⟩), .pointer (some ⟨d, 0, none⟩), .pointer (some ⟨e, 0, none⟩), u13, u14, u15, u16, u17, u18, u19, u20, u21, u22, u23, u24, u25, u26, f27, f28, f29, f30, f31, f32, f33, f34, f35, f36, f37, f38, f39, f40, f41, f42, f43, f44, f45, f46, f47, f48, f49, f50, f51, f52, f53, f54, f55, f56, f57, f58, f59, f60, f61, f62, f63, f64, f65, f66, f67, u68, u69, u70, u71, u72, u73, u74, u75, u76, u77, u78, u79, u80, u81, u82, u83, u84, u85, u86, u87, u88, u89, u90, u91, u92, u93, u94, u95, u96, u97, u98, u99, u100, u101, u102, u103, u104, u105, u106, u107, u108, u109, u110, u111, u112, u113, u114, u115, u116, u117, u118, u119, u120, u121, u122, u123, u124, u125, u126, u127, u128, u129, u130, u131, u132, u133, u134, u135, u136, u137, u138, u139, u140, u141, u142, u143, u144, u145, u146, u147, u148, u149, u150, u151, u152, u153, u154, u155, u156, u157, u158, u159, u160, u161, u162, u163, u164, u165, u166, u167, u168, u169, u170, u171, u172, u173, u174, u175, u176, u177, u178, u179, u180, u181, u182, u183, u184, u185, u186, u187, u188, u189, u190, u191, u192, u193, u194, u195, u196, u197, u198, u199, u200, u201, u202, u203, u204, u205, u206, u207, u208, u209, u210, u211, u212, u213, u214, u215, u216, u217, u218, u219, u220, u221, u222, u223, u224, u225, u226, u227, u228, u229, u230, u231, u232, u233, u234, u235, u236, u237, u238, u239, u240, u241, u242, u243, u244, u245, u246, u247, u248, u249, u250, f251, f252, f253, f254, f255, f256, f257, f258, f259, f260, f261, f262, f263, f264, f265, f266, f267, f268, f269, f270, f271, f272, f273, f274, f275, f276, f277, f278, f279, f280, f281, f282, f283, f284, f285, f286, f287, f288, f289, f290, f291], defers := [] } wx) :
    Code.wp Try.prog (tail9 11) Q { tmps := #[f0, f1, f2, f3, f4, f5, f6, .pointer (some ⟨b, 0, none⟩), .pointer (some ⟨M, 0, none⟩), f9, .pointer (some ⟨c, 0, none⟩), .pointer (some ⟨d, 0, none⟩), .pointer (some ⟨e, 0, none⟩), .int .i64 0, .int .i64 0, f15, f16, f17, f18, f19, f20, f21, f22, f23, f24, f25, f26, f27, f28, f29, f30, f31, f32, f33, f34, f35, f36, f37, f38, f39, f40, f41, f42, f43, f44, f45, f46, f47, f48, f49, f50, f51, f52, f53, f54, f55, f56, f57, f58, f59, f60, f61, f62, f63, f64, f65, f66, f67, f68, f69, f70, f71, f72, f73, f74, f75, f76, f77, f78, f79, f80, f81, f82, f83, f84, f85, f86, f87, f88, f89, f90, f91, f92, f93, f94, f95, f96, f97, f98, f99, f100, f101, f102, f103, f104, f105, f106, f107, f108, f109, f110, f111, f112, f113, f114, f115, f116, f117, f118, f119, f120, f121, f122, f123, f124, f125, f126, f127, f128, f129, f130, f131, f132, f133, f134, f135, f136, f137, f138, f139, f140, f141, f142, f143, f144, f145, f146, f147, f148, f149, f150, f151, f152, f153, f154, f155, f156, f157, f158, f159, f160, f161, f162, f163, f164, f165, f166, f167, f168, f169, f170, f171, f172, f173, f174, f175, f176, f177, f178, f179, f180, f181, f182, f183, f184, f185, f186, f187, f188, f189, f190, f191, f192, f193, f194, f195, f196, f197, f198, f199, f200, f201, f202, f203, f204, f205, f206, f207, f208, f209, f210, f211, f212, f213, f214, f215, f216, f217, f218, f219, f220, f221, f222, f223, f224, f225, f226, f227, f228, f229, f230, f231, f232, f233, f234, f235, f236, f237, f238, f239, f240, f241, f242, f243, f244, f245, f246, f247, f248, f249, f250, f251, f252, f253, f254, f255, f256, f257, f258, f259, f260, f261, f262, f263, f264, f265, f266, f267, f268, f269, f270, f271, f272, f273, f274, f275, f276, f277, f278, f279, f280, f281, f282, f283, f284, f285, f286, f287, f288, f289, f290, f291], defers := [] } wc := by
    have K0 := Lib.hid KC
    have HQ := Lib.hid hQ
    have HQC := Lib.hid hQC
    have SZF := Lib.hid fdSize
    have SZE := Lib.hid enSize
    have hc0 : wc.cell? ⟨c, 0, none⟩ = some (.int .u8 (x.what : Nat)) := KC.act.cell 0
    clear KC hQ hQC
    conv => arg 2; whnf
    conv => arg 4; zeta
    have e3 : ((x.what : Int) % 8 == 3) = false := by simp; omega
    have e4 : ((x.what : Int) % 8 == 4) = true := by simp; omega
    have hc8 : wc.cell? ⟨c, 8, none⟩ = some (.int .i64 x.port) := K0.out.act.cell 8
    by_cases hp : x.port < 1
    · have e9 : decide (x.port < 1) = true := decide_eq_true hp
      have TK := Lib.hid (show Calls Try.prog 13 #[.pointer (some ⟨b, 0, none⟩), .int .i64 x.port] wc fun e' w' => e' = .returned (.int .i64 0) ∧ Rd9 w0 b A B M base mo li c d e x v l l w' from
        (flush_tf x.port K0.out.two.tab (by have := K0.out.two.low; omega) (by have := HG.out.few; have := MO.out; omega)).mono fun e' w' ⟨q1, q2, q3⟩ => ⟨by rw [q1, (HG.out.low hp).2]; rfl, K0.out.prog (by rw [← (HG.out.low hp).1]; exact q2) q3⟩)
      go_wp2_with (go_at_call 13; refine TK.out.mono ?_; rintro e' w5 ⟨rfl, hR5⟩; have R5 := Lib.hid hR5; clear hR5)
      exact HQC.out _ _ _ _ _ _ _ _ _ _ _ _ _ _ _ _ _ _ _ _ _ _ _ _ _ _ _ _ _ _ _ _ _ _ _ _ _ _ _ _ _ _ _ _ _ _ _ _ _ _ _ _ _ _ _ _ _ _ _ _ _ _ _ _ _ _ _ _ _ _ _ _ _ _ _ _ _ _ _ _ _ _ _ _ _ _ _ _ _ _ _ _ _ _ _ _ _ _ _ _ _ _ _ _ _ _ _ _ _ _ _ _ _ _ _ _ _ _ _ _ _ _ _ _ _ _ _ _ _ _ _ _ _ _ _ _ _ _ _ _ _ _ _ _ _ _ _ _ _ _ _ _ _ _ _ _ _ _ _ _ _ _ _ _ _ _ _ _ _ _ _ _ _ _ _ _ _ _ _ _ _ _ _ _ _ _ _ _ _ _ _ _ _ _ _ _ _ _ _ R5.out.two
    · have e9 : decide (x.port < 1) = false := decide_eq_false hp
      have TK := Lib.hid (show Calls Try.prog 13 #[.pointer (some ⟨b, 0, none⟩), .int .i64 x.port] wc fun e' w' => e' = .returned (.int .i64 ((l.length : Int) - (flushL x.port 0 l).length)) ∧ Rd9 w0 b A B M base mo li c d e x v (flushL x.port 0 l) l w' from
        (flush_tf x.port K0.out.two.tab (by have := K0.out.two.low; omega) (by have := HG.out.few; have := MO.out; omega)).mono fun e' w' ⟨q1, q2, q3⟩ => ⟨by rw [q1, (flush_same l x.port (by omega)).2], K0.out.prog (by rw [← (flush_same l x.port (by omega)).1]; exact q2) q3⟩)
      go_upto_region 25 with (go_at_call 13; refine TK.out.mono ?_; rintro e' w5 ⟨rfl, hR5⟩)
      rename ∀ (a : Act) (w : World), Code.wp Try.prog (tail9 39) Q a w → _ => hK39
      have HK39 := Lib.hid hK39
      clear hK39
      have R5 := Lib.hid hR5
      clear hR5 hc0 hc8
      have hc8 : w5.cell? ⟨c, 8, none⟩ = some (.int .i64 x.port) := R5.out.act.cell 8
      have RT := Lib.hid (rflush9 base mo li x.port 0 v l w5 R5.out.two.own R5.out.two.low.2.2.2.2 (by have := HG.out.few; have := MO.out; omega))
      go_wp2_with (first
        | (refine wpList_load_row rfl 28 _ rfl M rfl 28 #[.int .i64 mo, .int .i64 li, v] (0, 0) _ R5.out.two.blk Try.underlying28 rfl SZF.out ?_)
        | (go_at_call 14; refine RT.out.mono ?_; rintro e' w6 ⟨v2, rfl, o6, hb6⟩; have O6 := Lib.hid o6; have R6 := Lib.hid (R5.out.next hb6); clear o6 hb6)
        | (refine wpList_store_row rfl 28 _ _ rfl M #[.int .i64 mo, .int .i64 li, v2] rfl rfl 28 #[.int .i64 mo, .int .i64 li, v] R6.out.two.blk SZF.out rfl (fd_one mo li O6.out) ?_))
      have T7 := Lib.hid (R6.out.two.model O6.out)
      refine HK39.out _ _ (t39 w0 b A B M base mo li v2 (flushL x.port 0 l) _ Q _ _ _ _ _ _ _ _ _ _ _ _ _ _ _ _ _ _ _ _ _ _ _ _ _ _ _ _ _ _ _ _ _ _ _ _ _ _ _ _ _ _ _ _ _ _ _ _ _ _ _ _ _ _ _ _ _ _ _ _ _ _ _ _ _ _ _ _ _ _ _ _ _ _ _ _ _ _ _ _ _ _ _ _ _ _ _ _ _ _ _ _ _ _ _ _ _ _ _ _ _ _ _ _ _ _ _ _ _ _ _ _ _ _ _ _ _ _ _ _ _ _ _ _ _ _ _ _ _ _ _ _ _ _ _ _ _ _ _ _ _ _ _ _ _ _ _ _ _ _ _ _ _ _ _ _ _ _ _ _ _ _ _ _ _ _ _ _ _ _ _ _ _ _ _ _ _ _ _ _ _ _ _ _ _ _ _ _ _ _ _ _ _ _ _ _ _ _ _ _ _ _ _ _ _ _ _ _ _ _ _ _ _ _ _ _ _ _ _ _ _ _ _ _ _ _ _ _ _ _ _ _ _ _ _ _ _ _ _ _ _ _ _ _ _ _ _ _ _ _ _ _ _ _ _ _ _ _ _ _ _ _ _ _ _ _ _ _ _ _ _ _ _ _ _ _ _ _ _ _ _ _ _ _ _ _ _ _ _ T7.out (by have := ((show Gd mo li (flushL x.port 0 l) from HG.out.filter _)).few; have := MO.out; omega) ?_)
      intro z6 z25 z26 z205 z206 z207 z208 z209 z210 z211 z212 z213 z214 z215 z216 z217 z218 z219 z220 z221 z222 z223 z224 z225 z226 z227 z228 z229 z230 z231 z232 z233 z234 z235 z236 z237 z238 z239 z240 z241 z242 z243 z244 z245 z246 z247 z248 z249 z250 wx hT
      exact HQ.out _ _ _ _ _ _ _ _ _ _ _ _ _ _ _ _ _ _ _ _ _ _ _ _ _ _ _ _ _ _ _ _ _ _ _ _ _ _ _ _ _ _ _ _ _ _ _ _ _ _ _ _ _ _ _ _ _ _ _ _ _ _ _ _ _ _ _ _ _ _ _ _ _ _ _ _ _ _ _ _ _ _ _ _ _ _ _ _ _ _ _ _ _ _ _ _ _ _ _ _ _ _ _ _ _ _ _ _ _ _ _ _ _ _ _ _ _ _ _ _ _ _ _ _ _ _ _ _ _ _ _ _ _ _ _ _ _ _ _ _ _ _ _ _ _ _ _ _ _ _ _ _ _ _ _ _ _ _ _ _ _ _ _ _ _ _ _ _ _ _ _ _ _ _ _ _ _ _ _ _ _ _ _ _ _ _ _ _ _ _ _ _ _ _ _ _ _ _ _ _ wx hT ((show Gd mo li (flushL x.port 0 l) from HG.out.filter _))

end Go.Proofs.Ytilklfmcdgggfaa
end
section
namespace Go.Proofs.Ytilklfmcdgggfaa
open Go.RowKit
attribute [local irreducible] wpQuiet
set_option linter.unusedSimpArgs false
set_option linter.unusedVariables false

set_option maxRecDepth 100000 in
set_option maxHeartbeats 32000000 in
theorem a_put (w0 : World) (b A B M base : Nat) (mo li : Int) (v : Value) (l : List En) (c d e : Nat) (x : Ac9) (MO : Hid (1 ≤ mo ∧ mo ≤ 64)) (LI : Hid (1 ≤ li ∧ li ≤ 1000)) (HXO : Hid (acOk9 x)) (HG : Hid (Gd mo li l)) (Q : Exit → Act → World → Prop) (f0 f1 f2 f3 f4 f5 f6 f9 f15 f16 f17 f18 f19 f20 f21 f22 f23 f24 f25 f26 f27 f28 f29 f30 f31 f32 f33 f34 f35 f36 f37 f38 f39 f40 f41 f42 f43 f44 f45 f46 f47 f48 f49 f50 f51 f52 f53 f54 f55 f56 f57 f58 f59 f60 f61 f62 f63 f64 f65 f66 : Value) (f67 f68 f69 f70 f71 f72 f73 f74 f75 f76 f77 f78 f79 f80 f81 f82 f83 f84 f85 f86 f87 f88 f89 f90 f91 f92 f93 f94 f95 f96 f97 f98 f99 f100 f101 f102 f103 f104 f105 f106 f107 f108 f109 f110 f111 f112 f113 f114 f115 f116 f117 f118 f119 f120 f121 f122 f123 f124 f125 f126 : Value) (f127 f128 f129 f130 f131 f132 f133 f134 f135 f136 f137 f138 f139 f140 f141 f142 f143 f144 f145 f146 f147 f148 f149 f150 f151 f152 f153 f154 f155 f156 f157 f158 f159 f160 f161 f162 f163 f164 f165 f166 f167 f168 f169 f170 f171 f172 f173 f174 f175 f176 f177 f178 f179 f180 f181 f182 f183 f184 f185 f186 : Value) (f187 f188 f189 f190 f191 f192 f193 f194 f195 f196 f197 f198 f199 f200 f201 f202 f203 f204 f205 f206 f207 f208 f209 f210 f211 f212 f213 f214 f215 f216 f217 f218 f219 f220 f221 f222 f223 f224 f225 f226 f227 f228 f229 f230 f231 f232 f233 f234 f235 f236 f237 f238 f239 f240 f241 f242 f243 f244 f245 f246 : Value) (f247 f248 f249 f250 f251 f252 f253 f254 f255 f256 f257 f258 f259 f260 f261 f262 f263 f264 f265 f266 f267 f268 f269 f270 f271 f272 f273 f274 f275 f276 f277 f278 f279 f280 f281 f282 f283 f284 f285 f286 f287 f288 f289 f290 f291 : Value) (wc : World) (KC : Rd9 w0 b A B M base mo li c d e x v l l wc) (hw : x.what % 8 = 6)
    (hQ : ∀ (u6 u13 u14 u15 u16 u17 u18 u19 u20 u21 u22 u23 u24 u25 u26 u68 u69 u70 u71 u72 u73 u74 u75 u76 u77 u78 u79 u80 u81 u82 u83 u84 u85 u86 u87 u88 u89 u90 u91 u92 u93 u94 u95 u96 u97 u98 u99 u100 u101 u102 u103 u104 u105 u106 u107 u108 u109 u110 u111 u112 : Value) (u113 u114 u115 u116 u117 u118 u119 u120 u121 u122 u123 u124 u125 u126 u127 u128 u129 u130 u131 u132 u133 u134 u135 u136 u137 u138 u139 u140 u141 u142 u143 u144 u145 u146 u147 u148 u149 u150 u151 u152 u153 u154 u155 u156 u157 u158 u159 u160 u161 u162 u163 u164 u165 u166 u167 u168 u169 u170 u171 u172 : Value) (u173 u174 u175 u176 u177 u178 u179 u180 u181 u182 u183 u184 u185 u186 u187 u188 u189 u190 u191 u192 u193 u194 u195 u196 u197 u198 u199 u200 u201 u202 u203 u204 u205 u206 u207 u208 u209 u210 u211 u212 u213 u214 u215 u216 u217 u218 u219 u220 u221 u222 u223 u224 u225 u226 u227 u228 u229 u230 u231 u232 : Value) (u233 u234 u235 u236 u237 u238 u239 u240 u241 u242 u243 u244 u245 u246 u247 u248 u249 u250 : Value) (v' : Value) (l' : List En) (wx : World), Two9 w0 b A B M base mo li v' l' l' wx → Gd mo li l' → Q .normal { tmps := #[f0, f1, f2, f3, f4, f5, u6, .pointer (some ⟨b, 0, none⟩), .pointer (some ⟨M, 0, none⟩), f9, .pointer (some ⟨c, 0, none⟩), .pointer (some ⟨d, 0, none⟩), .pointer (some ⟨e, 0, none⟩), u13, u14, u15, u16, u17, u18, u19, u20, u21, u22, u23, u24, u25, u26, f27, f28, f29, f30, f31, f32, f33, f34, f35, f36, f37, f38, f39, f40, f41, f42, f43, f44, f45, f46, f47, f48, f49, f50, f51, f52, f53, f54, f55, f56, f57, f58, f59, f60, f61, f62, f63, f64, f65, f66, f67, u68, u69, u70, u71, u72, u73, u74, u75, u76, u77, u78, u79, u80, u81, u82, u83, u84, u85, u86, u87, u88, u89, u90, u91, u92, u93, u94, u95, u96, u97, u98, u99, u100, u101, u102, u103, u104, u105, u106, u107, u108, u109, u110, u111, u112, u113, u114, u115, u116, u117, u118, u119, u120, u121, u122, u123, u124, u125, u126, u127, u128, u129, u130, u131, u132, u133, u134, u135, u136, u137, u138, u139, u140, u141, u142, u143, u144, u145, u146, u147, u148, u149, u150, u151, u152, u153, u154, u155, u156, u157, u158, u159, u160, u161, u162, u163, u164, u165, u166, u167, u168, u169, u170, u171, u172, u173, u174, u175, u176, u177, u178, u179, u180, u181, u182, u183, u184, u185, u186, u187, u188, u189, u190, u191, u192, u193, u194, u195, u196, u197, u198, u199, u200, u201, u202, u203, u204, u205, u206, u207, u208, u209, u210, u211, u212, u213, u214, u215, u216, u217, u218, u219, u220, u221, u222, u223, u224, u225, u226, u227, u228, u229, u230, u231, u232, u233, u234, u235, u236, u237, u238, u239, u240, u241, u242, u243, u244, u245, u246, u247, u248, u249, u250, f251, f252, f253, f254, f255, f256, f257, f258, f259, f260, f261, f262, f263, f264, f265, f266, f267, f268, f269, f270, f271, f272, f273, f274, f275, f276, f277, f278, f279, f280, f281, f282, f283, f284, f285, f286, f287, f288, f289, f290, f291], defers := [] } wx)
    (hQC : ∀ (u6 u13 u14 u15 u16 u17 u18 u19 u20 u21 u22 u23 u24 u25 u26 u68 u69 u70 u71 u72 u73 u74 u75 u76 u77 u78 u79 u80 u81 u82 u83 u84 u85 u86 u87 u88 u89 u90 u91 u92 u93 u94 u95 u96 u97 u98 u99 u100 u101 u102 u103 u104 u105 u106 u107 u108 u109 u110 u111 u112 : Value) (u113 u114 u115 u116 u117 u118 u119 u120 u121 u122 u123 u124 u125 u126 u127 u128 u129 u130 u131 u132 u133 u134 u135 u136 u137 u138 u139 u140 u141 u142 u143 u144 u145 u146 u147 u148 u149 u150 u151 u152 u153 u154 u155 u156 u157 u158 u159 u160 u161 u162 u163 u164 u165 u166 u167 u168 u169 u170 u171 u172 : Value) (u173 u174 u175 u176 u177 u178 u179 u180 u181 u182 u183 u184 u185 u186 u187 u188 u189 u190 u191 u192 u193 u194 u195 u196 u197 u198 u199 u200 u201 u202 u203 u204 u205 u206 u207 u208 u209 u210 u211 u212 u213 u214 u215 u216 u217 u218 u219 u220 u221 u222 u223 u224 u225 u226 u227 u228 u229 u230 u231 u232 : Value) (u233 u234 u235 u236 u237 u238 u239 u240 u241 u242 u243 u244 u245 u246 u247 u248 u249 u250 : Value) (wx : World), Two9 w0 b A B M base mo li v l l wx → Q (.exit 1) { tmps := #[f0, f1, f2, f3, f4, f5, u6, .pointer (some ⟨b, 0, none⟩), .pointer (some ⟨M, 0, none⟩), f9, .pointer (some ⟨c, 0, none⟩), .pointer (some ⟨d, 0, none⟩), .pointer (some ⟨e, 0, none⟩), u13, u14, u15, u16, u17, u18, u19, u20, u21, u22, u23, u24, u25, u26, f27, f28, f29, f30, f31, f32, f33, f34, f35, f36, f37, f38, f39, f40, f41, f42, f43, f44, f45, f46, f47, f48, f49, f50, f51, f52, f53, f54, f55, f56, f57, f58, f59, f60, f61, f62, f63, f64, f65, f66, f67, u68, u69, u70, u71, u72, u73, u74, u75, u76, u77, u78, u79, u80, u81, u82, u83, u84, u85, u86, u87, u88, u89, u90, u91, u92, u93, u94, u95, u96, u97, u98, u99, u100, u101, u102, u103, u104, u105, u106, u107, u108, u109, u110, u111, u112, u113, u114, u115, u116, u117, u118, u119, u120, u121, u122, u123, u124, u125, u126, u127, u128, u129, u130, u131, u132, u133, u134, u135, u136, u137, u138, u139, u140, u141, u142, u143, u144, u145, u146, u147, u148, u149, u150, u151, u152, u153, u154, u155, u156, u157, u158, u159, u160, u161, u162, u163, u164, u165, u166, u167, u168, u169, u170, u171, u172, u173, u174, u175, u176, u177, u178, u179, u180, u181, u182, u183, u184, u185, u186, u187, u188, u189, u190, u191, u192, u193, u194, u195, u196, u197, u198, u199, u200, u201, u202, u203, u204, u205, u206, u207, u208, u209, u210, u211, u212, u213, u214, u215, u216, u217, u218, u219, u220, u221, u222, u223, u224, u225, u226, u227, u228, u229, u230, u231, u232, u233, u234, u235, u236, u237, u238, u239, u240, u241, u242, u243, u244, u245, u246, u247, u248, u249, u250, f251, f252, f253, f254, f255, f256, f257, f258, f259, f260, f261, f262, f263, f264, f265, f266, f267, f268, f269, f270, f271, f272, f273, f274, f275, f276, f277, f278, f279, f280, f281, f282, f283, f284, f285, f286, f287, f288, f289, f290, f291], defers := [] } wx) :
    Code.wp Try.prog (tail9 11) Q { tmps := #[f0, f1, f2, f3, f4, f5, f6, .pointer (some ⟨b, 0, none⟩), .pointer (some ⟨M, 0, none⟩), f9, .pointer (some ⟨c, 0, none⟩), .pointer (some ⟨d, 0, none⟩), .pointer (some ⟨e, 0, none⟩), .int .i64 0, .int .i64 0, f15, f16, f17, f18, f19, f20, f21, f22, f23, f24, f25, f26, f27, f28, f29, f30, f31, f32, f33, f34, f35, f36, f37, f38, f39, f40, f41, f42, f43, f44, f45, f46, f47, f48, f49, f50, f51, f52, f53, f54, f55, f56, f57, f58, f59, f60, f61, f62, f63, f64, f65, f66, f67, f68, f69, f70, f71, f72, f73, f74, f75, f76, f77, f78, f79, f80, f81, f82, f83, f84, f85, f86, f87, f88, f89, f90, f91, f92, f93, f94, f95, f96, f97, f98, f99, f100, f101, f102, f103, f104, f105, f106, f107, f108, f109, f110, f111, f112, f113, f114, f115, f116, f117, f118, f119, f120, f121, f122, f123, f124, f125, f126, f127, f128, f129, f130, f131, f132, f133, f134, f135, f136, f137, f138, f139, f140, f141, f142, f143, f144, f145, f146, f147, f148, f149, f150, f151, f152, f153, f154, f155, f156, f157, f158, f159, f160, f161, f162, f163, f164, f165, f166, f167, f168, f169, f170, f171, f172, f173, f174, f175, f176, f177, f178, f179, f180, f181, f182, f183, f184, f185, f186, f187, f188, f189, f190, f191, f192, f193, f194, f195, f196, f197, f198, f199, f200, f201, f202, f203, f204, f205, f206, f207, f208, f209, f210, f211, f212, f213, f214, f215, f216, f217, f218, f219, f220, f221, f222, f223, f224, f225, f226, f227, f228, f229, f230, f231, f232, f233, f234, f235, f236, f237, f238, f239, f240, f241, f242, f243, f244, f245, f246, f247, f248, f249, f250, f251, f252, f253, f254, f255, f256, f257, f258, f259, f260, f261, f262, f263, f264, f265, f266, f267, f268, f269, f270, f271, f272, f273, f274, f275, f276, f277, f278, f279, f280, f281, f282, f283, f284, f285, f286, f287, f288, f289, f290, f291], defers := [] } wc := by
    have K0 := Lib.hid KC
    have HQ := Lib.hid hQ
    have HQC := Lib.hid hQC
    have SZF := Lib.hid fdSize
    have SZE := Lib.hid enSize
    have hc0 : wc.cell? ⟨c, 0, none⟩ = some (.int .u8 (x.what : Nat)) := KC.act.cell 0
    clear KC hQ hQC
    conv => arg 2; whnf
    conv => arg 4; zeta
    have e3 : ((x.what : Int) % 8 == 3) = false := by simp; omega
    have e4 : ((x.what : Int) % 8 == 4) = false := by simp; omega
    have e5 : ((x.what : Int) % 8 == 5) = false := by simp; omega
    have e6 : ((x.what : Int) % 8 == 6) = true := by simp; omega
    have RT := Lib.hid (rPut9 base mo li v l ⟨x.vid, x.mac, x.port, x.age⟩ wc K0.out.two.own K0.out.two.tab.sorted.2 HXO.out.2.2.1 K0.out.two.low.2.2.2.2 (by have := HG.out.few; have := MO.out; omega))
    have RN := Lib.hid (show ∀ W : World, Blk (W.alloc (.cells #[.int .i64 0, .int .i64 0, .slice none 0 0] 28)) W.heap.size #[.int .i64 0, .int .i64 0, .slice none 0 0] 28 from fun W => Blk.new W _ 28)
    go_upto_region 31 with (first
      | (refine wpList_load_row rfl 28 _ rfl M rfl 28 #[.int .i64 mo, .int .i64 li, v] (0, 0) _ K0.out.two.blk Try.underlying28 rfl SZF.out ?_)
      | (refine wpList_load_row rfl 38 _ rfl e rfl 38 (enA ⟨x.vid, x.mac, x.port, x.age⟩) (0, 0) _ K0.out.ent Try.underlying38 rfl SZE.out ?_)
      | (go_at_call 16; refine RT.out.mono ?_; rintro e' w6 ⟨v2, rfl, o6, hb6⟩; have O6 := Lib.hid o6; have R6 := Lib.hid (K0.out.next hb6); clear o6 hb6)
      | (refine wpList_store_row rfl 28 _ _ rfl w6.heap.size #[.int .i64 mo, .int .i64 li, v2] rfl rfl 28 #[.int .i64 0, .int .i64 0, .slice none 0 0] (RN.out w6) SZF.out rfl (fd_one mo li O6.out) ?_))
    rename ∀ (a : Act) (w : World), Code.wp Try.prog (tail9 39) Q a w → _ => hK39
    have HK39 := Lib.hid hK39
    clear hK39
    obtain ⟨T, hT⟩ : ∃ T, T = w6.heap.size := ⟨_, rfl⟩
    obtain ⟨W6, hW6⟩ : ∃ W6, W6 = (w6.alloc (.cells #[.int .i64 0, .int .i64 0, .slice none 0 0] 28)).setRow T #[.int .i64 mo, .int .i64 li, v2] := ⟨_, rfl⟩
    have hbb : Below w6.heap.size w6 W6 := by rw [hW6]; exact below_setRow ((Below.refl _ _).alloc (Nat.le_refl _) _) (by rw [hT]; exact Nat.le_refl _) _
    have KT := Lib.hid (show Blk W6 T #[.int .i64 mo, .int .i64 li, v2] 28 by rw [hW6, hT]; exact (RN.out w6).row _)
    have R7 := Lib.hid (R6.out.next hbb)
    have O7 := Lib.hid (O6.out.next hbb)
    have HTB := Lib.hid (show base ≤ T by rw [hT]; exact R6.out.two.low.2.2.2.2)
    rw [← hT, ← hW6]
    clear hT hW6 hbb hc0
    have hc8 : W6.cell? ⟨c, 8, none⟩ = some (.int .i64 x.port) := R7.out.act.cell 8
    have hc9 : W6.cell? ⟨c, 9, none⟩ = some (.int .i64 x.age) := R7.out.act.cell 9
    have PT := Lib.hid (show Calls Try.prog 17 #[.pointer (some ⟨b, 0, none⟩), .agg (enA ⟨x.vid, x.mac, x.port, x.age⟩)] W6 fun e' w' => e' = .returned (.bool (putE mo li l ⟨x.vid, x.mac, x.port, x.age⟩).2) ∧ Rd9 w0 b A B M base mo li c d e x v (putE mo li l ⟨x.vid, x.mac, x.port, x.age⟩).1 l w' ∧ Own w' base 38 9 enC v2 (putE mo li l ⟨x.vid, x.mac, x.port, x.age⟩).1 ∧ Blk w' T #[.int .i64 mo, .int .i64 li, v2] 28 from
      (put_tf ⟨x.vid, x.mac, x.port, x.age⟩ HXO.out.2.2.1 R7.out.two.tab R7.out.two.low.2.1 (by have := R7.out.two.low; omega)).mono fun e' w' ⟨q1, q2, q3⟩ => by
        have hl := R7.out.two.low
        have hT := HTB.out
        rw [(put_same mo li l ⟨x.vid, x.mac, x.port, x.age⟩).2] at q1
        rw [(put_same mo li l ⟨x.vid, x.mac, x.port, x.age⟩).1] at q2
        exact ⟨q1, R7.out.prog q2 q3, q3.own9 O7.out (by omega), q3.blk KT.out (.inr (by omega))⟩)
    obtain ⟨ans, hans⟩ : ∃ ans, ans = (putE mo li l ⟨x.vid, x.mac, x.port, x.age⟩).2 := ⟨_, rfl⟩
    rw [← hans] at PT ⊢
    have GP := Lib.hid (show Gd mo li (putE mo li l ⟨x.vid, x.mac, x.port, x.age⟩).1 by rw [← (put_same mo li l ⟨x.vid, x.mac, x.port, x.age⟩).1]; exact HG.out.put _)
    generalize (putE mo li l ⟨x.vid, x.mac, x.port, x.age⟩).1 = l2 at PT GP O6 O7
    obtain ⟨k0, k1, k2, k3, k4, k5, k6⟩ := k7_cells R7.out.key
    go_upto_region 33 with (first
      | (go_at_call 17; refine PT.out.mono ?_; rintro e' w8 ⟨rfl, hR8, hO8, hK8⟩; have R8 := Lib.hid hR8; have O8 := Lib.hid hO8; have K8 := Lib.hid hK8; clear hR8 hO8 hK8))
    go_wp2_with (first
      | (refine wpList_load_row rfl 28 _ rfl T rfl 28 #[.int .i64 mo, .int .i64 li, v2] (0, 0) _ K8.out Try.underlying28 rfl SZF.out ?_)
      | (refine wpList_store_row rfl 28 _ _ rfl M #[.int .i64 mo, .int .i64 li, v2] rfl rfl 28 #[.int .i64 mo, .int .i64 li, v] R8.out.two.blk SZF.out rfl (fd_one mo li O8.out) ?_))
    have T9 := Lib.hid (R8.out.two.model O8.out)
    refine HK39.out _ _ (t39 w0 b A B M base mo li v2 l2 _ Q _ _ _ _ _ _ _ _ _ _ _ _ _ _ _ _ _ _ _ _ _ _ _ _ _ _ _ _ _ _ _ _ _ _ _ _ _ _ _ _ _ _ _ _ _ _ _ _ _ _ _ _ _ _ _ _ _ _ _ _ _ _ _ _ _ _ _ _ _ _ _ _ _ _ _ _ _ _ _ _ _ _ _ _ _ _ _ _ _ _ _ _ _ _ _ _ _ _ _ _ _ _ _ _ _ _ _ _ _ _ _ _ _ _ _ _ _ _ _ _ _ _ _ _ _ _ _ _ _ _ _ _ _ _ _ _ _ _ _ _ _ _ _ _ _ _ _ _ _ _ _ _ _ _ _ _ _ _ _ _ _ _ _ _ _ _ _ _ _ _ _ _ _ _ _ _ _ _ _ _ _ _ _ _ _ _ _ _ _ _ _ _ _ _ _ _ _ _ _ _ _ _ _ _ _ _ _ _ _ _ _ _ _ _ _ _ _ _ _ _ _ _ _ _ _ _ _ _ _ _ _ _ _ _ _ _ _ _ _ _ _ _ _ _ _ _ _ _ _ _ _ _ _ _ _ _ _ _ _ _ _ _ _ _ _ _ _ _ _ _ _ _ _ _ _ _ _ _ _ _ _ _ _ _ _ _ _ _ _ T9.out (by have := (GP.out).few; have := MO.out; omega) ?_)
    intro z6 z25 z26 z205 z206 z207 z208 z209 z210 z211 z212 z213 z214 z215 z216 z217 z218 z219 z220 z221 z222 z223 z224 z225 z226 z227 z228 z229 z230 z231 z232 z233 z234 z235 z236 z237 z238 z239 z240 z241 z242 z243 z244 z245 z246 z247 z248 z249 z250 wx hT
    exact HQ.out _ _ _ _ _ _ _ _ _ _ _ _ _ _ _ _ _ _ _ _ _ _ _ _ _ _ _ _ _ _ _ _ _ _ _ _ _ _ _ _ _ _ _ _ _ _ _ _ _ _ _ _ _ _ _ _ _ _ _ _ _ _ _ _ _ _ _ _ _ _ _ _ _ _ _ _ _ _ _ _ _ _ _ _ _ _ _ _ _ _ _ _ _ _ _ _ _ _ _ _ _ _ _ _ _ _ _ _ _ _ _ _ _ _ _ _ _ _ _ _ _ _ _ _ _ _ _ _ _ _ _ _ _ _ _ _ _ _ _ _ _ _ _ _ _ _ _ _ _ _ _ _ _ _ _ _ _ _ _ _ _ _ _ _ _ _ _ _ _ _ _ _ _ _ _ _ _ _ _ _ _ _ _ _ _ _ _ _ _ _ _ _ _ _ _ _ _ _ _ _ wx hT (GP.out)

end Go.Proofs.Ytilklfmcdgggfaa
end
section
namespace Go.Proofs.Ytilklfmcdgggfaa
open Go.RowKit
attribute [local irreducible] wpQuiet
set_option linter.unusedSimpArgs false
set_option linter.unusedVariables false

set_option maxRecDepth 100000 in
set_option maxHeartbeats 32000000 in
theorem a_find (w0 : World) (b A B M base : Nat) (mo li : Int) (v : Value) (l : List En) (c d e : Nat) (x : Ac9) (MO : Hid (1 ≤ mo ∧ mo ≤ 64)) (LI : Hid (1 ≤ li ∧ li ≤ 1000)) (HXO : Hid (acOk9 x)) (HG : Hid (Gd mo li l)) (Q : Exit → Act → World → Prop) (f0 f1 f2 f3 f4 f5 f6 f9 f15 f16 f17 f18 f19 f20 f21 f22 f23 f24 f25 f26 f27 f28 f29 f30 f31 f32 f33 f34 f35 f36 f37 f38 f39 f40 f41 f42 f43 f44 f45 f46 f47 f48 f49 f50 f51 f52 f53 f54 f55 f56 f57 f58 f59 f60 f61 f62 f63 f64 f65 f66 : Value) (f67 f68 f69 f70 f71 f72 f73 f74 f75 f76 f77 f78 f79 f80 f81 f82 f83 f84 f85 f86 f87 f88 f89 f90 f91 f92 f93 f94 f95 f96 f97 f98 f99 f100 f101 f102 f103 f104 f105 f106 f107 f108 f109 f110 f111 f112 f113 f114 f115 f116 f117 f118 f119 f120 f121 f122 f123 f124 f125 f126 : Value) (f127 f128 f129 f130 f131 f132 f133 f134 f135 f136 f137 f138 f139 f140 f141 f142 f143 f144 f145 f146 f147 f148 f149 f150 f151 f152 f153 f154 f155 f156 f157 f158 f159 f160 f161 f162 f163 f164 f165 f166 f167 f168 f169 f170 f171 f172 f173 f174 f175 f176 f177 f178 f179 f180 f181 f182 f183 f184 f185 f186 : Value) (f187 f188 f189 f190 f191 f192 f193 f194 f195 f196 f197 f198 f199 f200 f201 f202 f203 f204 f205 f206 f207 f208 f209 f210 f211 f212 f213 f214 f215 f216 f217 f218 f219 f220 f221 f222 f223 f224 f225 f226 f227 f228 f229 f230 f231 f232 f233 f234 f235 f236 f237 f238 f239 f240 f241 f242 f243 f244 f245 f246 : Value) (f247 f248 f249 f250 f251 f252 f253 f254 f255 f256 f257 f258 f259 f260 f261 f262 f263 f264 f265 f266 f267 f268 f269 f270 f271 f272 f273 f274 f275 f276 f277 f278 f279 f280 f281 f282 f283 f284 f285 f286 f287 f288 f289 f290 f291 : Value) (wc : World) (KC : Rd9 w0 b A B M base mo li c d e x v l l wc) (hw : x.what % 8 = 7)
    (hQ : ∀ (u6 u13 u14 u15 u16 u17 u18 u19 u20 u21 u22 u23 u24 u25 u26 u68 u69 u70 u71 u72 u73 u74 u75 u76 u77 u78 u79 u80 u81 u82 u83 u84 u85 u86 u87 u88 u89 u90 u91 u92 u93 u94 u95 u96 u97 u98 u99 u100 u101 u102 u103 u104 u105 u106 u107 u108 u109 u110 u111 u112 : Value) (u113 u114 u115 u116 u117 u118 u119 u120 u121 u122 u123 u124 u125 u126 u127 u128 u129 u130 u131 u132 u133 u134 u135 u136 u137 u138 u139 u140 u141 u142 u143 u144 u145 u146 u147 u148 u149 u150 u151 u152 u153 u154 u155 u156 u157 u158 u159 u160 u161 u162 u163 u164 u165 u166 u167 u168 u169 u170 u171 u172 : Value) (u173 u174 u175 u176 u177 u178 u179 u180 u181 u182 u183 u184 u185 u186 u187 u188 u189 u190 u191 u192 u193 u194 u195 u196 u197 u198 u199 u200 u201 u202 u203 u204 u205 u206 u207 u208 u209 u210 u211 u212 u213 u214 u215 u216 u217 u218 u219 u220 u221 u222 u223 u224 u225 u226 u227 u228 u229 u230 u231 u232 : Value) (u233 u234 u235 u236 u237 u238 u239 u240 u241 u242 u243 u244 u245 u246 u247 u248 u249 u250 : Value) (v' : Value) (l' : List En) (wx : World), Two9 w0 b A B M base mo li v' l' l' wx → Gd mo li l' → Q .normal { tmps := #[f0, f1, f2, f3, f4, f5, u6, .pointer (some ⟨b, 0, none⟩), .pointer (some ⟨M, 0, none⟩), f9, .pointer (some ⟨c, 0, none⟩), .pointer (some ⟨d, 0, none⟩), .pointer (some ⟨e, 0, none⟩), u13, u14, u15, u16, u17, u18, u19, u20, u21, u22, u23, u24, u25, u26, f27, f28, f29, f30, f31, f32, f33, f34, f35, f36, f37, f38, f39, f40, f41, f42, f43, f44, f45, f46, f47, f48, f49, f50, f51, f52, f53, f54, f55, f56, f57, f58, f59, f60, f61, f62, f63, f64, f65, f66, f67, u68, u69, u70, u71, u72, u73, u74, u75, u76, u77, u78, u79, u80, u81, u82, u83, u84, u85, u86, u87, u88, u89, u90, u91, u92, u93, u94, u95, u96, u97, u98, u99, u100, u101, u102, u103, u104, u105, u106, u107, u108, u109, u110, u111, u112, u113, u114, u115, u116, u117, u118, u119, u120, u121, u122, u123, u124, u125, u126, u127, u128, u129, u130, u131, u132, u133, u134, u135, u136, u137, u138, u139, u140, u141, u142, u143, u144, u145, u146, u147, u148, u149, u150, u151, u152, u153, u154, u155, u156, u157, u158, u159, u160, u161, u162, u163, u164, u165, u166, u167, u168, u169, u170, u171, u172, u173, u174, u175, u176, u177, u178, u179, u180, u181, u182, u183, u184, u185, u186, u187, u188, u189, u190, u191, u192, u193, u194, u195, u196, u197, u198, u199, u200, u201, u202, u203, u204, u205, u206, u207, u208, u209, u210, u211, u212, u213, u214, u215, u216, u217, u218, u219, u220, u221, u222, u223, u224, u225, u226, u227, u228, u229, u230, u231, u232, u233, u234, u235, u236, u237, u238, u239, u240, u241, u242, u243, u244, u245, u246, u247, u248, u249, u250, f251, f252, f253, f254, f255, f256, f257, f258, f259, f260, f261, f262, f263, f264, f265, f266, f267, f268, f269, f270, f271, f272, f273, f274, f275, f276, f277, f278, f279, f280, f281, f282, f283, f284, f285, f286, f287, f288, f289, f290, f291], defers := [] } wx)
    (hQC : ∀ (u6 u13 u14 u15 u16 u17 u18 u19 u20 u21 u22 u23 u24 u25 u26 u68 u69 u70 u71 u72 u73 u74 u75 u76 u77 u78 u79 u80 u81 u82 u83 u84 u85 u86 u87 u88 u89 u90 u91 u92 u93 u94 u95 u96 u97 u98 u99 u100 u101 u102 u103 u104 u105 u106 u107 u108 u109 u110 u111 u112 : Value) (u113 u114 u115 u116 u117 u118 u119 u120 u121 u122 u123 u124 u125 u126 u127 u128 u129 u130 u131 u132 u133 u134 u135 u136 u137 u138 u139 u140 u141 u142 u143 u144 u145 u146 u147 u148 u149 u150 u151 u152 u153 u154 u155 u156 u157 u158 u159 u160 u161 u162 u163 u164 u165 u166 u167 u168 u169 u170 u171 u172 : Value) (u173 u174 u175 u176 u177 u178 u179 u180 u181 u182 u183 u184 u185 u186 u187 u188 u189 u190 u191 u192 u193 u194 u195 u196 u197 u198 u199 u200 u201 u202 u203 u204 u205 u206 u207 u208 u209 u210 u211 u212 u213 u214 u215 u216 u217 u218 u219 u220 u221 u222 u223 u224 u225 u226 u227 u228 u229 u230 u231 u232 : Value) (u233 u234 u235 u236 u237 u238 u239 u240 u241 u242 u243 u244 u245 u246 u247 u248 u249 u250 : Value) (wx : World), Two9 w0 b A B M base mo li v l l wx → Q (.exit 1) { tmps := #[f0, f1, f2, f3, f4, f5, u6, .pointer (some ⟨b, 0, none⟩), .pointer (some ⟨M, 0, none⟩), f9, .pointer (some ⟨c, 0, none⟩), .pointer (some ⟨d, 0, none⟩), .pointer (some ⟨e, 0, none⟩), u13, u14, u15, u16, u17, u18, u19, u20, u21, u22, u23, u24, u25, u26, f27, f28, f29, f30, f31, f32, f33, f34, f35, f36, f37, f38, f39, f40, f41, f42, f43, f44, f45, f46, f47, f48, f49, f50, f51, f52, f53, f54, f55, f56, f57, f58, f59, f60, f61, f62, f63, f64, f65, f66, f67, u68, u69, u70, u71, u72, u73, u74, u75, u76, u77, u78, u79, u80, u81, u82, u83, u84, u85, u86, u87, u88, u89, u90, u91, u92, u93, u94, u95, u96, u97, u98, u99, u100, u101, u102, u103, u104, u105, u106, u107, u108, u109, u110, u111, u112, u113, u114, u115, u116, u117, u118, u119, u120, u121, u122, u123, u124, u125, u126, u127, u128, u129, u130, u131, u132, u133, u134, u135, u136, u137, u138, u139, u140, u141, u142, u143, u144, u145, u146, u147, u148, u149, u150, u151, u152, u153, u154, u155, u156, u157, u158, u159, u160, u161, u162, u163, u164, u165, u166, u167, u168, u169, u170, u171, u172, u173, u174, u175, u176, u177, u178, u179, u180, u181, u182, u183, u184, u185, u186, u187, u188, u189, u190, u191, u192, u193, u194, u195, u196, u197, u198, u199, u200, u201, u202, u203, u204, u205, u206, u207, u208, u209, u210, u211, u212, u213, u214, u215, u216, u217, u218, u219, u220, u221, u222, u223, u224, u225, u226, u227, u228, u229, u230, u231, u232, u233, u234, u235, u236, u237, u238, u239, u240, u241, u242, u243, u244, u245, u246, u247, u248, u249, u250, f251, f252, f253, f254, f255, f256, f257, f258, f259, f260, f261, f262, f263, f264, f265, f266, f267, f268, f269, f270, f271, f272, f273, f274, f275, f276, f277, f278, f279, f280, f281, f282, f283, f284, f285, f286, f287, f288, f289, f290, f291], defers := [] } wx) :
    Code.wp Try.prog (tail9 11) Q { tmps := #[f0, f1, f2, f3, f4, f5, f6, .pointer (some ⟨b, 0, none⟩), .pointer (some ⟨M, 0, none⟩), f9, .pointer (some ⟨c, 0, none⟩), .pointer (some ⟨d, 0, none⟩), .pointer (some ⟨e, 0, none⟩), .int .i64 0, .int .i64 0, f15, f16, f17, f18, f19, f20, f21, f22, f23, f24, f25, f26, f27, f28, f29, f30, f31, f32, f33, f34, f35, f36, f37, f38, f39, f40, f41, f42, f43, f44, f45, f46, f47, f48, f49, f50, f51, f52, f53, f54, f55, f56, f57, f58, f59, f60, f61, f62, f63, f64, f65, f66, f67, f68, f69, f70, f71, f72, f73, f74, f75, f76, f77, f78, f79, f80, f81, f82, f83, f84, f85, f86, f87, f88, f89, f90, f91, f92, f93, f94, f95, f96, f97, f98, f99, f100, f101, f102, f103, f104, f105, f106, f107, f108, f109, f110, f111, f112, f113, f114, f115, f116, f117, f118, f119, f120, f121, f122, f123, f124, f125, f126, f127, f128, f129, f130, f131, f132, f133, f134, f135, f136, f137, f138, f139, f140, f141, f142, f143, f144, f145, f146, f147, f148, f149, f150, f151, f152, f153, f154, f155, f156, f157, f158, f159, f160, f161, f162, f163, f164, f165, f166, f167, f168, f169, f170, f171, f172, f173, f174, f175, f176, f177, f178, f179, f180, f181, f182, f183, f184, f185, f186, f187, f188, f189, f190, f191, f192, f193, f194, f195, f196, f197, f198, f199, f200, f201, f202, f203, f204, f205, f206, f207, f208, f209, f210, f211, f212, f213, f214, f215, f216, f217, f218, f219, f220, f221, f222, f223, f224, f225, f226, f227, f228, f229, f230, f231, f232, f233, f234, f235, f236, f237, f238, f239, f240, f241, f242, f243, f244, f245, f246, f247, f248, f249, f250, f251, f252, f253, f254, f255, f256, f257, f258, f259, f260, f261, f262, f263, f264, f265, f266, f267, f268, f269, f270, f271, f272, f273, f274, f275, f276, f277, f278, f279, f280, f281, f282, f283, f284, f285, f286, f287, f288, f289, f290, f291], defers := [] } wc := by
    have K0 := Lib.hid KC
    have HQ := Lib.hid hQ
    have HQC := Lib.hid hQC
    have SZF := Lib.hid fdSize
    have SZE := Lib.hid enSize
    have hc0 : wc.cell? ⟨c, 0, none⟩ = some (.int .u8 (x.what : Nat)) := KC.act.cell 0
    clear KC hQ hQC
    conv => arg 2; whnf
    conv => arg 4; zeta
    have e3 : ((x.what : Int) % 8 == 3) = false := by simp; omega
    have e4 : ((x.what : Int) % 8 == 4) = false := by simp; omega
    have e5 : ((x.what : Int) % 8 == 5) = false := by simp; omega
    have e6 : ((x.what : Int) % 8 == 6) = false := by simp; omega
    have e7 : ((x.what : Int) % 8 == 7) = true := by simp; omega
    obtain ⟨k0, k1, k2, k3, k4, k5, k6⟩ := k7_cells K0.out.key
    have RA := Lib.hid (show ∀ W, Rd9 w0 b A B M base mo li c d e x v l l W → Calls Try.prog 19 #[.agg #[.int .i64 mo, .int .i64 li, v], .int .u16 (x.vid : Nat), mac (byteF x.mac)] W fun e' w' => e' = .returned (.int .i64 (atK enK (keyN x.vid x.mac) l)) ∧ Below W.heap.size W w' from fun W hW =>
      rat9_any base x.vid x.mac HXO.out.2.2.1 mo li v l W hW.two.own hW.two.tab.sorted.2 (by have := HG.out.few; have := MO.out; omega))
    rcases atK_cases enK (keyN x.vid x.mac) l with ⟨g1, g2⟩ | ⟨kk, z, g1, g2, g3⟩
    · have FD := Lib.hid (show Calls Try.prog 18 #[.pointer (some ⟨b, 0, none⟩), .agg #[.int .u16 (x.vid : Nat), .int .u8 (byteF x.mac 0 : Nat), .int .u8 (byteF x.mac 1 : Nat), .int .u8 (byteF x.mac 2 : Nat), .int .u8 (byteF x.mac 3 : Nat), .int .u8 (byteF x.mac 4 : Nat), .int .u8 (byteF x.mac 5 : Nat)]] wc fun e' w' => e' = .returned (.tuple #[.int .i64 0, .bool false]) ∧ Rd9 w0 b A B M base mo li c d e x v l l w' from
        (find_tf x.vid x.mac HXO.out.2.2.1 K0.out.two.tab).mono fun e' w' ⟨q1, q2⟩ => ⟨find_not g2 q2, K0.out.next q1⟩)
      rw [g1] at RA
      clear g1 g2
      go_upto_region 36 with (go_at_call 18; refine FD.out.mono ?_; rintro e' w5 ⟨rfl, hR5⟩)
      rename ∀ (a : Act) (w : World), Code.wp Try.prog (tail9 39) Q a w → _ => hK39
      have HK39 := Lib.hid hK39
      clear hK39
      have R5 := Lib.hid hR5
      clear hR5 hc0 k0 k1 k2 k3 k4 k5 k6
      have hc1 : w5.cell? ⟨c, 1, none⟩ = some (.int .u16 (x.vid : Nat)) := R5.out.act.cell 1
      have hc2 : w5.cell? ⟨c, 2, none⟩ = some (.int .u8 (byteF x.mac 0 : Nat)) := R5.out.act.cell 2
      have hc3 : w5.cell? ⟨c, 3, none⟩ = some (.int .u8 (byteF x.mac 1 : Nat)) := R5.out.act.cell 3
      have hc4 : w5.cell? ⟨c, 4, none⟩ = some (.int .u8 (byteF x.mac 2 : Nat)) := R5.out.act.cell 4
      have hc5 : w5.cell? ⟨c, 5, none⟩ = some (.int .u8 (byteF x.mac 3 : Nat)) := R5.out.act.cell 5
      have hc6 : w5.cell? ⟨c, 6, none⟩ = some (.int .u8 (byteF x.mac 4 : Nat)) := R5.out.act.cell 6
      have hc7 : w5.cell? ⟨c, 7, none⟩ = some (.int .u8 (byteF x.mac 5 : Nat)) := R5.out.act.cell 7
      go_upto_region 37 with (first
        | (refine wpList_load_row rfl 28 _ rfl M rfl 28 #[.int .i64 mo, .int .i64 li, v] (0, 0) _ R5.out.two.blk Try.underlying28 rfl SZF.out ?_)
        | (go_at_call 19; refine (RA.out w5 R5.out).mono ?_; rintro e' w6 ⟨rfl, hb6⟩))
      have T9 := Lib.hid (R5.out.next hb6).two
      clear hb6 hc1 hc2 hc3 hc4 hc5 hc6 hc7
      go_wp2_with fail
      refine HK39.out _ _ (t39 w0 b A B M base mo li v l _ Q _ _ _ _ _ _ _ _ _ _ _ _ _ _ _ _ _ _ _ _ _ _ _ _ _ _ _ _ _ _ _ _ _ _ _ _ _ _ _ _ _ _ _ _ _ _ _ _ _ _ _ _ _ _ _ _ _ _ _ _ _ _ _ _ _ _ _ _ _ _ _ _ _ _ _ _ _ _ _ _ _ _ _ _ _ _ _ _ _ _ _ _ _ _ _ _ _ _ _ _ _ _ _ _ _ _ _ _ _ _ _ _ _ _ _ _ _ _ _ _ _ _ _ _ _ _ _ _ _ _ _ _ _ _ _ _ _ _ _ _ _ _ _ _ _ _ _ _ _ _ _ _ _ _ _ _ _ _ _ _ _ _ _ _ _ _ _ _ _ _ _ _ _ _ _ _ _ _ _ _ _ _ _ _ _ _ _ _ _ _ _ _ _ _ _ _ _ _ _ _ _ _ _ _ _ _ _ _ _ _ _ _ _ _ _ _ _ _ _ _ _ _ _ _ _ _ _ _ _ _ _ _ _ _ _ _ _ _ _ _ _ _ _ _ _ _ _ _ _ _ _ _ _ _ _ _ _ _ _ _ _ _ _ _ _ _ _ _ _ _ _ _ _ _ _ _ _ _ _ _ _ _ _ _ _ _ _ _ _ T9.out (by have := (HG.out).few; have := MO.out; omega) ?_)
      intro z6 z25 z26 z205 z206 z207 z208 z209 z210 z211 z212 z213 z214 z215 z216 z217 z218 z219 z220 z221 z222 z223 z224 z225 z226 z227 z228 z229 z230 z231 z232 z233 z234 z235 z236 z237 z238 z239 z240 z241 z242 z243 z244 z245 z246 z247 z248 z249 z250 wx hT
      exact HQ.out _ _ _ _ _ _ _ _ _ _ _ _ _ _ _ _ _ _ _ _ _ _ _ _ _ _ _ _ _ _ _ _ _ _ _ _ _ _ _ _ _ _ _ _ _ _ _ _ _ _ _ _ _ _ _ _ _ _ _ _ _ _ _ _ _ _ _ _ _ _ _ _ _ _ _ _ _ _ _ _ _ _ _ _ _ _ _ _ _ _ _ _ _ _ _ _ _ _ _ _ _ _ _ _ _ _ _ _ _ _ _ _ _ _ _ _ _ _ _ _ _ _ _ _ _ _ _ _ _ _ _ _ _ _ _ _ _ _ _ _ _ _ _ _ _ _ _ _ _ _ _ _ _ _ _ _ _ _ _ _ _ _ _ _ _ _ _ _ _ _ _ _ _ _ _ _ _ _ _ _ _ _ _ _ _ _ _ _ _ _ _ _ _ _ _ _ _ _ _ _ wx hT (HG.out)
    · have FD := Lib.hid (show Calls Try.prog 18 #[.pointer (some ⟨b, 0, none⟩), .agg #[.int .u16 (x.vid : Nat), .int .u8 (byteF x.mac 0 : Nat), .int .u8 (byteF x.mac 1 : Nat), .int .u8 (byteF x.mac 2 : Nat), .int .u8 (byteF x.mac 3 : Nat), .int .u8 (byteF x.mac 4 : Nat), .int .u8 (byteF x.mac 5 : Nat)]] wc fun e' w' => e' = .returned (.tuple #[.int .i64 z.port, .bool true]) ∧ Below wc.heap.size wc w' from
        (find_tf x.vid x.mac HXO.out.2.2.1 K0.out.two.tab).mono fun e' w' ⟨q1, q2⟩ => ⟨find_mem K0.out.two.tab.sorted.1 (List.mem_of_getElem? g2) g3.symm q2, q1⟩)
      rw [g1] at RA
      obtain ⟨n, hn⟩ : ∃ n, l.length = n := ⟨_, rfl⟩
      have hkn : kk < n := by rw [← hn]; exact (List.getElem?_eq_some_iff.1 g2).1
      obtain ⟨A2, c2, hv, hrow2⟩ := src_rows enC_len (by omega) K0.out.two.own.src
      rw [hn] at hv
      subst hv
      rcases hrow2 with hnil | ⟨b2, o2, rfl, hb2, hcl⟩
      · rw [hnil] at g2; simp at g2
      have HP := Lib.hid (show ∀ W, Below wc.heap.size wc W → W.cell? ⟨b2, o2 + kk * 9 + 7, none⟩ = some (.int .i64 z.port) from fun W hW => by
        rw [hW.cell (p := ⟨b2, o2 + kk * 9 + 7, none⟩) hb2]
        exact hcl kk z g2 7 _ rfl)
      have hkn' : (kk : Int) < (n : Int) := by omega
      have hk0 : (0 : Int) ≤ (kk : Int) := by omega
      have hn64 : (n : Int) ≤ 64 := by have := HG.out.few; have := MO.out; omega
      clear g1 g2 g3 hcl hn
      go_upto_region 36 with (go_at_call 18; refine FD.out.mono ?_; rintro e' w5 ⟨rfl, hb5⟩)
      rename ∀ (a : Act) (w : World), Code.wp Try.prog (tail9 39) Q a w → _ => hK39
      have HK39 := Lib.hid hK39
      clear hK39
      have R5 := Lib.hid (K0.out.next hb5)
      have B5 := Lib.hid hb5
      clear hb5 hc0 k0 k1 k2 k3 k4 k5 k6
      have hc1 : w5.cell? ⟨c, 1, none⟩ = some (.int .u16 (x.vid : Nat)) := R5.out.act.cell 1
      have hc2 : w5.cell? ⟨c, 2, none⟩ = some (.int .u8 (byteF x.mac 0 : Nat)) := R5.out.act.cell 2
      have hc3 : w5.cell? ⟨c, 3, none⟩ = some (.int .u8 (byteF x.mac 1 : Nat)) := R5.out.act.cell 3
      have hc4 : w5.cell? ⟨c, 4, none⟩ = some (.int .u8 (byteF x.mac 2 : Nat)) := R5.out.act.cell 4
      have hc5 : w5.cell? ⟨c, 5, none⟩ = some (.int .u8 (byteF x.mac 3 : Nat)) := R5.out.act.cell 5
      have hc6 : w5.cell? ⟨c, 6, none⟩ = some (.int .u8 (byteF x.mac 4 : Nat)) := R5.out.act.cell 6
      have hc7 : w5.cell? ⟨c, 7, none⟩ = some (.int .u8 (byteF x.mac 5 : Nat)) := R5.out.act.cell 7
      go_upto_region 37 with (first
        | (refine wpList_load_row rfl 28 _ rfl M rfl 28 #[.int .i64 mo, .int .i64 li, (.slice (some ⟨b2, o2, none⟩) n c2)] (0, 0) _ R5.out.two.blk Try.underlying28 rfl SZF.out ?_)
        | (go_at_call 19; refine (RA.out w5 R5.out).mono ?_; rintro e' w6 ⟨rfl, hb6⟩))
      have T9 := Lib.hid (R5.out.next hb6).two
      have hp6 : w6.cell? ⟨b2, o2 + kk * 9 + 7, none⟩ = some (.int .i64 z.port) := HP.out w6 (B5.out.trans (hb6.mono B5.out.size))
      have m2 : w6.cell? ⟨M, 2, none⟩ = some (.slice (some ⟨b2, o2, none⟩) n c2) := T9.out.blk.cell 2
      clear hb6 hc1 hc2 hc3 hc4 hc5 hc6 hc7
      go_wp2_with fail
      refine HK39.out _ _ (t39 w0 b A B M base mo li (.slice (some ⟨b2, o2, none⟩) n c2) l _ Q _ _ _ _ _ _ _ _ _ _ _ _ _ _ _ _ _ _ _ _ _ _ _ _ _ _ _ _ _ _ _ _ _ _ _ _ _ _ _ _ _ _ _ _ _ _ _ _ _ _ _ _ _ _ _ _ _ _ _ _ _ _ _ _ _ _ _ _ _ _ _ _ _ _ _ _ _ _ _ _ _ _ _ _ _ _ _ _ _ _ _ _ _ _ _ _ _ _ _ _ _ _ _ _ _ _ _ _ _ _ _ _ _ _ _ _ _ _ _ _ _ _ _ _ _ _ _ _ _ _ _ _ _ _ _ _ _ _ _ _ _ _ _ _ _ _ _ _ _ _ _ _ _ _ _ _ _ _ _ _ _ _ _ _ _ _ _ _ _ _ _ _ _ _ _ _ _ _ _ _ _ _ _ _ _ _ _ _ _ _ _ _ _ _ _ _ _ _ _ _ _ _ _ _ _ _ _ _ _ _ _ _ _ _ _ _ _ _ _ _ _ _ _ _ _ _ _ _ _ _ _ _ _ _ _ _ _ _ _ _ _ _ _ _ _ _ _ _ _ _ _ _ _ _ _ _ _ _ _ _ _ _ _ _ _ _ _ _ _ _ _ _ _ _ _ _ _ _ _ _ _ _ _ _ _ _ _ _ _ T9.out (by have := (HG.out).few; have := MO.out; omega) ?_)
      intro z6 z25 z26 z205 z206 z207 z208 z209 z210 z211 z212 z213 z214 z215 z216 z217 z218 z219 z220 z221 z222 z223 z224 z225 z226 z227 z228 z229 z230 z231 z232 z233 z234 z235 z236 z237 z238 z239 z240 z241 z242 z243 z244 z245 z246 z247 z248 z249 z250 wx hT
      exact HQ.out _ _ _ _ _ _ _ _ _ _ _ _ _ _ _ _ _ _ _ _ _ _ _ _ _ _ _ _ _ _ _ _ _ _ _ _ _ _ _ _ _ _ _ _ _ _ _ _ _ _ _ _ _ _ _ _ _ _ _ _ _ _ _ _ _ _ _ _ _ _ _ _ _ _ _ _ _ _ _ _ _ _ _ _ _ _ _ _ _ _ _ _ _ _ _ _ _ _ _ _ _ _ _ _ _ _ _ _ _ _ _ _ _ _ _ _ _ _ _ _ _ _ _ _ _ _ _ _ _ _ _ _ _ _ _ _ _ _ _ _ _ _ _ _ _ _ _ _ _ _ _ _ _ _ _ _ _ _ _ _ _ _ _ _ _ _ _ _ _ _ _ _ _ _ _ _ _ _ _ _ _ _ _ _ _ _ _ _ _ _ _ _ _ _ _ _ _ _ _ _ wx hT (HG.out)

end Go.Proofs.Ytilklfmcdgggfaa
end
section
namespace Go.Proofs.Ytilklfmcdgggfaa
open Go.RowKit
attribute [local irreducible] wpQuiet
set_option linter.unusedSimpArgs false
set_option linter.unusedVariables false

theorem equal_e49 (x : En) (w : World) : (Op.equalIn 10000 49 (.agg (enA x)) (.agg (enA x))).run Try.prog w = .ok true w := by
  have hS : Try.prog.underlying 49 = some (.struct (Try.prog.fieldsOf 49)) := by kernel_rfl
  have hp : Try.prog.stoodInHeld 49 = false := by kernel_rfl
  rw [show (10000 : Nat) = 9999 + 1 from rfl, run_equalIn_agg w 9999 49 _ _ hS hp]
  simp only [Program.fieldsOf, Try.underlying49]
  have u3 := Try.underlying3
  have e1 : ∀ W, (Op.equalIn 9999 36 (.agg (kyA x.vid x.mac)) (.agg (kyA x.vid x.mac))).run Try.prog W = .ok true W := fun W => by
    have hS : Try.prog.underlying 36 = some (.struct (Try.prog.fieldsOf 36)) := by kernel_rfl
    have hp : Try.prog.stoodInHeld 36 = false := by kernel_rfl
    rw [show (9999 : Nat) = 9998 + 1 from rfl, run_equalIn_agg W 9998 36 _ _ hS hp]
    simp only [Program.fieldsOf, Try.underlying36]
    have u30 := Try.underlying30
    have e1 : ∀ W, (Op.equalIn 9998 34 (mac (byteF x.mac)) (mac (byteF x.mac))).run Try.prog W = .ok true W := fun W => by rw [equal_mac 9996 34 Try.underlying34, eqMac_self]
    go_simp
  go_simp

set_option maxRecDepth 100000 in
set_option maxHeartbeats 32000000 in
theorem a_learn (w0 : World) (b A B M base : Nat) (mo li : Int) (v : Value) (l : List En) (c d e : Nat) (x : Ac9) (MO : Hid (1 ≤ mo ∧ mo ≤ 64)) (LI : Hid (1 ≤ li ∧ li ≤ 1000)) (HXO : Hid (acOk9 x)) (HG : Hid (Gd mo li l)) (Q : Exit → Act → World → Prop) (f0 f1 f2 f3 f4 f5 f6 f9 f15 f16 f17 f18 f19 f20 f21 f22 f23 f24 f25 f26 f27 f28 f29 f30 f31 f32 f33 f34 f35 f36 f37 f38 f39 f40 f41 f42 f43 f44 f45 f46 f47 f48 f49 f50 f51 f52 f53 f54 f55 f56 f57 f58 f59 f60 f61 f62 f63 f64 f65 f66 : Value) (f67 f68 f69 f70 f71 f72 f73 f74 f75 f76 f77 f78 f79 f80 f81 f82 f83 f84 f85 f86 f87 f88 f89 f90 f91 f92 f93 f94 f95 f96 f97 f98 f99 f100 f101 f102 f103 f104 f105 f106 f107 f108 f109 f110 f111 f112 f113 f114 f115 f116 f117 f118 f119 f120 f121 f122 f123 f124 f125 f126 : Value) (f127 f128 f129 f130 f131 f132 f133 f134 f135 f136 f137 f138 f139 f140 f141 f142 f143 f144 f145 f146 f147 f148 f149 f150 f151 f152 f153 f154 f155 f156 f157 f158 f159 f160 f161 f162 f163 f164 f165 f166 f167 f168 f169 f170 f171 f172 f173 f174 f175 f176 f177 f178 f179 f180 f181 f182 f183 f184 f185 f186 : Value) (f187 f188 f189 f190 f191 f192 f193 f194 f195 f196 f197 f198 f199 f200 f201 f202 f203 f204 f205 f206 f207 f208 f209 f210 f211 f212 f213 f214 f215 f216 f217 f218 f219 f220 f221 f222 f223 f224 f225 f226 f227 f228 f229 f230 f231 f232 f233 f234 f235 f236 f237 f238 f239 f240 f241 f242 f243 f244 f245 f246 : Value) (f247 f248 f249 f250 f251 f252 f253 f254 f255 f256 f257 f258 f259 f260 f261 f262 f263 f264 f265 f266 f267 f268 f269 f270 f271 f272 f273 f274 f275 f276 f277 f278 f279 f280 f281 f282 f283 f284 f285 f286 f287 f288 f289 f290 f291 : Value) (wc : World) (KC : Rd9 w0 b A B M base mo li c d e x v l l wc) (hw : x.what % 8 < 3)
    (hQ : ∀ (u6 u13 u14 u15 u16 u17 u18 u19 u20 u21 u22 u23 u24 u25 u26 u68 u69 u70 u71 u72 u73 u74 u75 u76 u77 u78 u79 u80 u81 u82 u83 u84 u85 u86 u87 u88 u89 u90 u91 u92 u93 u94 u95 u96 u97 u98 u99 u100 u101 u102 u103 u104 u105 u106 u107 u108 u109 u110 u111 u112 : Value) (u113 u114 u115 u116 u117 u118 u119 u120 u121 u122 u123 u124 u125 u126 u127 u128 u129 u130 u131 u132 u133 u134 u135 u136 u137 u138 u139 u140 u141 u142 u143 u144 u145 u146 u147 u148 u149 u150 u151 u152 u153 u154 u155 u156 u157 u158 u159 u160 u161 u162 u163 u164 u165 u166 u167 u168 u169 u170 u171 u172 : Value) (u173 u174 u175 u176 u177 u178 u179 u180 u181 u182 u183 u184 u185 u186 u187 u188 u189 u190 u191 u192 u193 u194 u195 u196 u197 u198 u199 u200 u201 u202 u203 u204 u205 u206 u207 u208 u209 u210 u211 u212 u213 u214 u215 u216 u217 u218 u219 u220 u221 u222 u223 u224 u225 u226 u227 u228 u229 u230 u231 u232 : Value) (u233 u234 u235 u236 u237 u238 u239 u240 u241 u242 u243 u244 u245 u246 u247 u248 u249 u250 : Value) (v' : Value) (l' : List En) (wx : World), Two9 w0 b A B M base mo li v' l' l' wx → Gd mo li l' → Q .normal { tmps := #[f0, f1, f2, f3, f4, f5, u6, .pointer (some ⟨b, 0, none⟩), .pointer (some ⟨M, 0, none⟩), f9, .pointer (some ⟨c, 0, none⟩), .pointer (some ⟨d, 0, none⟩), .pointer (some ⟨e, 0, none⟩), u13, u14, u15, u16, u17, u18, u19, u20, u21, u22, u23, u24, u25, u26, f27, f28, f29, f30, f31, f32, f33, f34, f35, f36, f37, f38, f39, f40, f41, f42, f43, f44, f45, f46, f47, f48, f49, f50, f51, f52, f53, f54, f55, f56, f57, f58, f59, f60, f61, f62, f63, f64, f65, f66, f67, u68, u69, u70, u71, u72, u73, u74, u75, u76, u77, u78, u79, u80, u81, u82, u83, u84, u85, u86, u87, u88, u89, u90, u91, u92, u93, u94, u95, u96, u97, u98, u99, u100, u101, u102, u103, u104, u105, u106, u107, u108, u109, u110, u111, u112, u113, u114, u115, u116, u117, u118, u119, u120, u121, u122, u123, u124, u125, u126, u127, u128, u129, u130, u131, u132, u133, u134, u135, u136, u137, u138, u139, u140, u141, u142, u143, u144, u145, u146, u147, u148, u149, u150, u151, u152, u153, u154, u155, u156, u157, u158, u159, u160, u161, u162, u163, u164, u165, u166, u167, u168, u169, u170, u171, u172, u173, u174, u175, u176, u177, u178, u179, u180, u181, u182, u183, u184, u185, u186, u187, u188, u189, u190, u191, u192, u193, u194, u195, u196, u197, u198, u199, u200, u201, u202, u203, u204, u205, u206, u207, u208, u209, u210, u211, u212, u213, u214, u215, u216, u217, u218, u219, u220, u221, u222, u223, u224, u225, u226, u227, u228, u229, u230, u231, u232, u233, u234, u235, u236, u237, u238, u239, u240, u241, u242, u243, u244, u245, u246, u247, u248, u249, u250, f251, f252, f253, f254, f255, f256, f257, f258, f259, f260, f261, f262, f263, f264, f265, f266, f267, f268, f269, f270, f271, f272, f273, f274, f275, f276, f277, f278, f279, f280, f281, f282, f283, f284, f285, f286, f287, f288, f289, f290, f291], defers := [] } wx)
    (hQC : ∀ (u6 u13 u14 u15 u16 u17 u18 u19 u20 u21 u22 u23 u24 u25 u26 u68 u69 u70 u71 u72 u73 u74 u75 u76 u77 u78 u79 u80 u81 u82 u83 u84 u85 u86 u87 u88 u89 u90 u91 u92 u93 u94 u95 u96 u97 u98 u99 u100 u101 u102 u103 u104 u105 u106 u107 u108 u109 u110 u111 u112 : Value) (u113 u114 u115 u116 u117 u118 u119 u120 u121 u122 u123 u124 u125 u126 u127 u128 u129 u130 u131 u132 u133 u134 u135 u136 u137 u138 u139 u140 u141 u142 u143 u144 u145 u146 u147 u148 u149 u150 u151 u152 u153 u154 u155 u156 u157 u158 u159 u160 u161 u162 u163 u164 u165 u166 u167 u168 u169 u170 u171 u172 : Value) (u173 u174 u175 u176 u177 u178 u179 u180 u181 u182 u183 u184 u185 u186 u187 u188 u189 u190 u191 u192 u193 u194 u195 u196 u197 u198 u199 u200 u201 u202 u203 u204 u205 u206 u207 u208 u209 u210 u211 u212 u213 u214 u215 u216 u217 u218 u219 u220 u221 u222 u223 u224 u225 u226 u227 u228 u229 u230 u231 u232 : Value) (u233 u234 u235 u236 u237 u238 u239 u240 u241 u242 u243 u244 u245 u246 u247 u248 u249 u250 : Value) (wx : World), Two9 w0 b A B M base mo li v l l wx → Q (.exit 1) { tmps := #[f0, f1, f2, f3, f4, f5, u6, .pointer (some ⟨b, 0, none⟩), .pointer (some ⟨M, 0, none⟩), f9, .pointer (some ⟨c, 0, none⟩), .pointer (some ⟨d, 0, none⟩), .pointer (some ⟨e, 0, none⟩), u13, u14, u15, u16, u17, u18, u19, u20, u21, u22, u23, u24, u25, u26, f27, f28, f29, f30, f31, f32, f33, f34, f35, f36, f37, f38, f39, f40, f41, f42, f43, f44, f45, f46, f47, f48, f49, f50, f51, f52, f53, f54, f55, f56, f57, f58, f59, f60, f61, f62, f63, f64, f65, f66, f67, u68, u69, u70, u71, u72, u73, u74, u75, u76, u77, u78, u79, u80, u81, u82, u83, u84, u85, u86, u87, u88, u89, u90, u91, u92, u93, u94, u95, u96, u97, u98, u99, u100, u101, u102, u103, u104, u105, u106, u107, u108, u109, u110, u111, u112, u113, u114, u115, u116, u117, u118, u119, u120, u121, u122, u123, u124, u125, u126, u127, u128, u129, u130, u131, u132, u133, u134, u135, u136, u137, u138, u139, u140, u141, u142, u143, u144, u145, u146, u147, u148, u149, u150, u151, u152, u153, u154, u155, u156, u157, u158, u159, u160, u161, u162, u163, u164, u165, u166, u167, u168, u169, u170, u171, u172, u173, u174, u175, u176, u177, u178, u179, u180, u181, u182, u183, u184, u185, u186, u187, u188, u189, u190, u191, u192, u193, u194, u195, u196, u197, u198, u199, u200, u201, u202, u203, u204, u205, u206, u207, u208, u209, u210, u211, u212, u213, u214, u215, u216, u217, u218, u219, u220, u221, u222, u223, u224, u225, u226, u227, u228, u229, u230, u231, u232, u233, u234, u235, u236, u237, u238, u239, u240, u241, u242, u243, u244, u245, u246, u247, u248, u249, u250, f251, f252, f253, f254, f255, f256, f257, f258, f259, f260, f261, f262, f263, f264, f265, f266, f267, f268, f269, f270, f271, f272, f273, f274, f275, f276, f277, f278, f279, f280, f281, f282, f283, f284, f285, f286, f287, f288, f289, f290, f291], defers := [] } wx) :
    Code.wp Try.prog (tail9 11) Q { tmps := #[f0, f1, f2, f3, f4, f5, f6, .pointer (some ⟨b, 0, none⟩), .pointer (some ⟨M, 0, none⟩), f9, .pointer (some ⟨c, 0, none⟩), .pointer (some ⟨d, 0, none⟩), .pointer (some ⟨e, 0, none⟩), .int .i64 0, .int .i64 0, f15, f16, f17, f18, f19, f20, f21, f22, f23, f24, f25, f26, f27, f28, f29, f30, f31, f32, f33, f34, f35, f36, f37, f38, f39, f40, f41, f42, f43, f44, f45, f46, f47, f48, f49, f50, f51, f52, f53, f54, f55, f56, f57, f58, f59, f60, f61, f62, f63, f64, f65, f66, f67, f68, f69, f70, f71, f72, f73, f74, f75, f76, f77, f78, f79, f80, f81, f82, f83, f84, f85, f86, f87, f88, f89, f90, f91, f92, f93, f94, f95, f96, f97, f98, f99, f100, f101, f102, f103, f104, f105, f106, f107, f108, f109, f110, f111, f112, f113, f114, f115, f116, f117, f118, f119, f120, f121, f122, f123, f124, f125, f126, f127, f128, f129, f130, f131, f132, f133, f134, f135, f136, f137, f138, f139, f140, f141, f142, f143, f144, f145, f146, f147, f148, f149, f150, f151, f152, f153, f154, f155, f156, f157, f158, f159, f160, f161, f162, f163, f164, f165, f166, f167, f168, f169, f170, f171, f172, f173, f174, f175, f176, f177, f178, f179, f180, f181, f182, f183, f184, f185, f186, f187, f188, f189, f190, f191, f192, f193, f194, f195, f196, f197, f198, f199, f200, f201, f202, f203, f204, f205, f206, f207, f208, f209, f210, f211, f212, f213, f214, f215, f216, f217, f218, f219, f220, f221, f222, f223, f224, f225, f226, f227, f228, f229, f230, f231, f232, f233, f234, f235, f236, f237, f238, f239, f240, f241, f242, f243, f244, f245, f246, f247, f248, f249, f250, f251, f252, f253, f254, f255, f256, f257, f258, f259, f260, f261, f262, f263, f264, f265, f266, f267, f268, f269, f270, f271, f272, f273, f274, f275, f276, f277, f278, f279, f280, f281, f282, f283, f284, f285, f286, f287, f288, f289, f290, f291], defers := [] } wc := by
    have K0 := Lib.hid KC
    have HQ := Lib.hid hQ
    have HQC := Lib.hid hQC
    have SZF := Lib.hid fdSize
    have SZE := Lib.hid enSize
    have hc0 : wc.cell? ⟨c, 0, none⟩ = some (.int .u8 (x.what : Nat)) := KC.act.cell 0
    clear KC hQ hQC
    conv => arg 2; whnf
    conv => arg 4; zeta
    have e3 : ((x.what : Int) % 8 == 3) = false := by simp; omega
    have e4 : ((x.what : Int) % 8 == 4) = false := by simp; omega
    have e5 : ((x.what : Int) % 8 == 5) = false := by simp; omega
    have e6 : ((x.what : Int) % 8 == 6) = false := by simp; omega
    have e7 : ((x.what : Int) % 8 == 7) = false := by simp; omega
    have SZ49 := Lib.hid enSize49
    obtain ⟨k0, k1, k2, k3, k4, k5, k6⟩ := k7_cells K0.out.key
    have hc8 : wc.cell? ⟨c, 8, none⟩ = some (.int .i64 x.port) := K0.out.act.cell 8
    have LP := Lib.hid (show Calls Try.prog 20 #[.pointer (some ⟨b, 0, none⟩), .agg #[.int .u16 (x.vid : Nat), .int .u8 (byteF x.mac 0 : Nat), .int .u8 (byteF x.mac 1 : Nat), .int .u8 (byteF x.mac 2 : Nat), .int .u8 (byteF x.mac 3 : Nat), .int .u8 (byteF x.mac 4 : Nat), .int .u8 (byteF x.mac 5 : Nat)], .int .i64 x.port] wc fun e' w' => ∃ l2 z full, e' = .returned (.tuple #[.agg (enA z), .bool full]) ∧ learnE mo l ⟨x.vid, x.mac, x.port, 0⟩ = (l2, enA z, full) ∧ Gd mo li l2 ∧ Rd9 w0 b A B M base mo li c d e x v l2 l w' from
      (learn_tf x.vid x.mac x.port HXO.out.2.2.1 MO.out.1 K0.out.two.tab K0.out.two.low.2.1 (by have := K0.out.two.low; omega)).mono fun e' w' ⟨l2, gv, full, q1, q2, q3, q4⟩ => by
        obtain ⟨z, rfl⟩ := learn_gone q1
        exact ⟨l2, z, full, q2, learn_same LI.out.1 K0.out.two.tab.sorted.1 q1, HG.out.learn LI.out.1 q1, K0.out.prog q3 q4⟩)
    go_upto_region 12 with fail
    rename ∀ (a : Act) (w : World), Code.wp Try.prog (tail9 39) Q a w → _ => hK39
    have HK39 := Lib.hid hK39
    clear hK39
    go_upto_region 13 with (go_at_call 20; refine LP.out.mono ?_; rintro e' w5 ⟨l2, z, full, rfl, hle, hgd, hR5⟩)
    obtain ⟨G, hG⟩ : ∃ G, G = w5.heap.size := ⟨_, rfl⟩
    obtain ⟨W5, hW5⟩ : ∃ W5, W5 = w5.alloc (.cells (enA z) 49) := ⟨_, rfl⟩
    have b5 : Below w5.heap.size w5 W5 := by rw [hW5]; exact (Below.refl _ _).alloc (Nat.le_refl _) _
    have LE := Lib.hid hle
    have GP := Lib.hid hgd
    have R5 := Lib.hid (hR5.next b5)
    have KG := Lib.hid (show Blk W5 G (enA z) 49 by rw [hW5, hG]; exact Blk.new _ _ _)
    have HGB := Lib.hid (show base ≤ G by rw [hG]; exact hR5.two.low.2.2.2.2)
    rw [← hG, ← hW5]
    clear hG hW5 b5 hle hgd hR5 hc0 hc8 k0 k1 k2 k3 k4 k5 k6 e3 e4 e5 e6 e7
    obtain ⟨arr, harr⟩ : ∃ arr, arr = enA z := ⟨_, rfl⟩
    have HARR := Lib.hid harr
    have HAS := Lib.hid (show (Try.prog.info? 38).map (·.size) = some arr.size by rw [harr]; exact enSize)
    have HA9 := Lib.hid (show enNilB.size = arr.size by rw [harr]; rfl)
    have HA1 := Lib.hid (show arr.all (·.oneCell') = true by rw [harr]; exact enA_one z)
    rw [← harr] at LE
    clear harr
    have RL := Lib.hid (show Calls Try.prog 21 #[.agg #[.int .i64 mo, .int .i64 li, v], .agg (enA ⟨x.vid, x.mac, x.port, x.age⟩)] W5 fun e' w' => ∃ v', e' = .returned (.tuple #[.agg #[.int .i64 mo, .int .i64 li, v'], .agg arr, .bool full]) ∧ Own w' base 38 9 enC v' l2 ∧ Below W5.heap.size W5 w' from by
      have := rlearn9 base mo li MO.out.1 v l ⟨x.vid, x.mac, x.port, x.age⟩ W5 R5.out.two.own K0.out.two.tab.sorted.2 HXO.out.2.2.1 R5.out.two.low.2.2.2.2 (by have := HG.out.few; have := MO.out; omega)
      simp only [LE.out] at this
      exact this)
    have RN1 := Lib.hid (show ∀ W : World, Blk ((W.alloc (.cells #[.int .i64 0, .int .i64 0, .slice none 0 0] 28)).alloc (.cells enNilB 38)) W.heap.size #[.int .i64 0, .int .i64 0, .slice none 0 0] 28 from fun W => (Blk.new W _ 28).alloc _)
    have RN2 := Lib.hid (show ∀ (W : World) (n : Array Value), Blk (((W.alloc (.cells #[.int .i64 0, .int .i64 0, .slice none 0 0] 28)).alloc (.cells enNilB 38)).setRow W.heap.size n) (W.heap.size + 1) enNilB 38 from fun W n => by
      have := Blk.new (W.alloc (.cells #[.int .i64 0, .int .i64 0, .slice none 0 0] 28)) enNilB 38
      rw [World.size_alloc] at this
      exact this.rowOther (by omega) n)
    go_upto_region 14 with (first
      | (refine wpList_load_row rfl 28 _ rfl M rfl 28 #[.int .i64 mo, .int .i64 li, v] (0, 0) _ R5.out.two.blk Try.underlying28 rfl SZF.out ?_)
      | (refine wpList_load_row rfl 38 _ rfl e rfl 38 (enA ⟨x.vid, x.mac, x.port, x.age⟩) (0, 0) _ R5.out.ent Try.underlying38 rfl SZE.out ?_)
      | (go_at_call 21; refine RL.out.mono ?_; rintro e' w6 ⟨v2, rfl, o6, hb6⟩; have O6 := Lib.hid o6; have R6 := Lib.hid (R5.out.next hb6); have KG6 := Lib.hid (KG.out.below hb6 KG.out.lt); clear o6 hb6)
      | (refine wpList_store_row rfl 28 _ _ rfl w6.heap.size #[.int .i64 mo, .int .i64 li, v2] rfl rfl 28 #[.int .i64 0, .int .i64 0, .slice none 0 0] (RN1.out w6) SZF.out rfl (fd_one mo li O6.out) ?_)
      | (refine wpList_store_row rfl 38 _ _ rfl (w6.heap.size + 1) arr rfl rfl 38 enNilB (RN2.out w6 _) HAS.out HA9.out HA1.out ?_))
    obtain ⟨T, hT⟩ : ∃ T, T = w6.heap.size := ⟨_, rfl⟩
    obtain ⟨W7, hW7⟩ : ∃ W7, W7 = (((w6.alloc (.cells #[.int .i64 0, .int .i64 0, .slice none 0 0] 28)).alloc (.cells enNilB 38)).setRow T #[.int .i64 mo, .int .i64 li, v2]).setRow (T + 1) arr := ⟨_, rfl⟩
    have hbb : Below w6.heap.size w6 W7 := by rw [hW7]; exact below_setRow (below_setRow (((Below.refl _ _).alloc (Nat.le_refl _) _).alloc (by simp) _) (by rw [hT]; exact Nat.le_refl _) _) (by rw [hT]; omega) _
    have KT := Lib.hid (show Blk W7 T #[.int .i64 mo, .int .i64 li, v2] 28 by rw [hW7, hT]; exact ((RN1.out w6).row _).rowOther (by omega) _)
    have KU := Lib.hid (show Blk W7 (T + 1) (enA z) 38 by rw [hW7, hT, HARR.out]; exact (RN2.out w6 _).row _)
    have R7 := Lib.hid (R6.out.next hbb)
    have O7 := Lib.hid (O6.out.next hbb)
    have KG7 := Lib.hid (KG6.out.below hbb KG6.out.lt)
    rw [← hT, ← hW7]
    clear hT hW7 hbb
    have u0 : W7.cell? ⟨T + 1, 0, none⟩ = some (.int .u16 (z.vid : Nat)) := KU.out.cell 0
    have u1 : W7.cell? ⟨T + 1, 1, none⟩ = some (.int .u8 (byteF z.mac 0 : Nat)) := KU.out.cell 1
    have u2 : W7.cell? ⟨T + 1, 2, none⟩ = some (.int .u8 (byteF z.mac 1 : Nat)) := KU.out.cell 2
    have u3 : W7.cell? ⟨T + 1, 3, none⟩ = some (.int .u8 (byteF z.mac 2 : Nat)) := KU.out.cell 3
    have u4 : W7.cell? ⟨T + 1, 4, none⟩ = some (.int .u8 (byteF z.mac 3 : Nat)) := KU.out.cell 4
    have u5 : W7.cell? ⟨T + 1, 5, none⟩ = some (.int .u8 (byteF z.mac 4 : Nat)) := KU.out.cell 5
    have u6 : W7.cell? ⟨T + 1, 6, none⟩ = some (.int .u8 (byteF z.mac 5 : Nat)) := KU.out.cell 6
    have u7 : W7.cell? ⟨T + 1, 7, none⟩ = some (.int .i64 z.port) := KU.out.cell 7
    have u8 : W7.cell? ⟨T + 1, 8, none⟩ = some (.int .i64 z.age) := KU.out.cell 8
    have EQ : ∀ W : World, (Op.equalIn 10000 49 (.agg (enA z)) (.agg (enA z))).run Try.prog W = .ok true W := equal_e49 z
    have e1 : (full != full) = false := by cases full <;> rfl
    go_upto_region 16 with (first
      | (refine wpList_val (.agg (enA z)) (by rfl) (run_loadVar_of 49 _ rfl G rfl 49 (enA z) _ KG7.out Try.underlying49 rfl SZ49.out) ?_))
    clear u0 u1 u2 u3 u4 u5 u6 u7 u8
    go_wp2_with (first
      | (refine wpList_load_row rfl 28 _ rfl T rfl 28 #[.int .i64 mo, .int .i64 li, v2] (0, 0) _ KT.out Try.underlying28 rfl SZF.out ?_)
      | (refine wpList_store_row rfl 28 _ _ rfl M #[.int .i64 mo, .int .i64 li, v2] rfl rfl 28 #[.int .i64 mo, .int .i64 li, v] R7.out.two.blk SZF.out rfl (fd_one mo li O7.out) ?_))
    have T9 := Lib.hid (R7.out.two.model O7.out)
    refine HK39.out _ _ (t39 w0 b A B M base mo li v2 l2 _ Q _ _ _ _ _ _ _ _ _ _ _ _ _ _ _ _ _ _ _ _ _ _ _ _ _ _ _ _ _ _ _ _ _ _ _ _ _ _ _ _ _ _ _ _ _ _ _ _ _ _ _ _ _ _ _ _ _ _ _ _ _ _ _ _ _ _ _ _ _ _ _ _ _ _ _ _ _ _ _ _ _ _ _ _ _ _ _ _ _ _ _ _ _ _ _ _ _ _ _ _ _ _ _ _ _ _ _ _ _ _ _ _ _ _ _ _ _ _ _ _ _ _ _ _ _ _ _ _ _ _ _ _ _ _ _ _ _ _ _ _ _ _ _ _ _ _ _ _ _ _ _ _ _ _ _ _ _ _ _ _ _ _ _ _ _ _ _ _ _ _ _ _ _ _ _ _ _ _ _ _ _ _ _ _ _ _ _ _ _ _ _ _ _ _ _ _ _ _ _ _ _ _ _ _ _ _ _ _ _ _ _ _ _ _ _ _ _ _ _ _ _ _ _ _ _ _ _ _ _ _ _ _ _ _ _ _ _ _ _ _ _ _ _ _ _ _ _ _ _ _ _ _ _ _ _ _ _ _ _ _ _ _ _ _ _ _ _ _ _ _ _ _ _ _ _ _ _ _ _ _ _ _ _ _ _ _ _ _ _ T9.out (by have := (GP.out).few; have := MO.out; omega) ?_)
    intro z6 z25 z26 z205 z206 z207 z208 z209 z210 z211 z212 z213 z214 z215 z216 z217 z218 z219 z220 z221 z222 z223 z224 z225 z226 z227 z228 z229 z230 z231 z232 z233 z234 z235 z236 z237 z238 z239 z240 z241 z242 z243 z244 z245 z246 z247 z248 z249 z250 wx hT
    exact HQ.out _ _ _ _ _ _ _ _ _ _ _ _ _ _ _ _ _ _ _ _ _ _ _ _ _ _ _ _ _ _ _ _ _ _ _ _ _ _ _ _ _ _ _ _ _ _ _ _ _ _ _ _ _ _ _ _ _ _ _ _ _ _ _ _ _ _ _ _ _ _ _ _ _ _ _ _ _ _ _ _ _ _ _ _ _ _ _ _ _ _ _ _ _ _ _ _ _ _ _ _ _ _ _ _ _ _ _ _ _ _ _ _ _ _ _ _ _ _ _ _ _ _ _ _ _ _ _ _ _ _ _ _ _ _ _ _ _ _ _ _ _ _ _ _ _ _ _ _ _ _ _ _ _ _ _ _ _ _ _ _ _ _ _ _ _ _ _ _ _ _ _ _ _ _ _ _ _ _ _ _ _ _ _ _ _ _ _ _ _ _ _ _ _ _ _ _ _ _ _ _ wx hT (GP.out)

end Go.Proofs.Ytilklfmcdgggfaa
end
section
namespace Go.Proofs.Ytilklfmcdgggfaa
open Go.RowKit
attribute [local irreducible] wpQuiet
set_option linter.unusedSimpArgs false
set_option linter.unusedVariables false

set_option maxRecDepth 100000 in
set_option maxHeartbeats 32000000 in
theorem fplays_walk (mo0 li0 : Int) (a : Option Addr) (len cap : Nat) (acts : List Ac9) (w0 : World) (h : IsArg33 w0 a len cap acts) :
    Calls Try.prog 3 #[.int .i64 mo0, .int .i64 li0, .slice a len cap] w0 fun e w' => e = .returned (.bool true) ∧ Below w0.heap.size w0 w' := by
  obtain ⟨hl, hr, hok, hc, hn⟩ := h
  have HL := Lib.hid hl
  have HR := Lib.hid hr
  have HOK := Lib.hid hok
  have hlc : (len : Int) ≤ 9223372036854775807 := by have := hc.1; have := hc.2; unfold maxLen at *; omega
  have HC := Lib.hid hc
  clear hl hr hok hc hn
  obtain ⟨mo, hmo⟩ : ∃ mo : Int, clampD 64 mo0 = mo := ⟨_, rfl⟩
  obtain ⟨li, hli⟩ : ∃ li : Int, clampD 1000 li0 = li := ⟨_, rfl⟩
  have MO := Lib.hid (show 1 ≤ mo ∧ mo ≤ 64 by rw [← hmo]; exact clampD_in 64 mo0 (by omega))
  have LI := Lib.hid (show 1 ≤ li ∧ li ≤ 1000 by rw [← hli]; exact clampD_in 1000 li0 (by omega))
  have HNEW := Lib.hid (show ∀ W : World, Calls Try.prog 9 #[.int .i64 mo0, .int .i64 li0] W fun e w' => ∃ b, e = .returned (.pointer (some ⟨b, 0, none⟩)) ∧ TF w' b W.heap.size w'.heap.size mo li [] ∧ Below W.heap.size W w' from fun W => by rw [← hmo, ← hli]; exact new_tf mo0 li0 W)
  have HRNEW := Lib.hid (show ∀ W : World, Calls Try.prog 10 #[.int .i64 mo0, .int .i64 li0] W fun e w' => e = .returned (.agg #[.int .i64 mo, .int .i64 li, .slice none 0 0]) ∧ Below W.heap.size W w' from fun W => by rw [← hmo, ← hli, ← clamp_same 64 _ (by omega), ← clamp_same 1000 _ (by omega)]; exact rnew9 mo0 li0 W)
  have SZF := Lib.hid fdSize
  have SZE := Lib.hid enSize
  clear hmo hli
  go_enter Try.func3, Try.ntmps3
  go_upto_region 3 with (go_at_call 8; refine (speaks9_any _).mono ?_; rintro e w1 ⟨rfl, hb1⟩)
  have HB1 := Lib.hid hb1
  clear hb1
  go_upto_region 5 with (first
    | (go_at_call 9; with_reducible refine (HNEW.out _).mono ?_; rintro e w2 ⟨b, rfl, ht, hb2⟩; have HT2 := Lib.hid ht; have HB2 := Lib.hid hb2; clear ht hb2)
    | (go_at_call 10; with_reducible refine (HRNEW.out _).mono ?_; rintro e w3 ⟨rfl, hb3⟩; have HB3 := Lib.hid hb3; clear hb3))
  obtain ⟨M, hM⟩ : ∃ M, M = w3.heap.size := ⟨_, rfl⟩
  obtain ⟨w4, hw4⟩ : ∃ w4, w4 = w3.alloc (.cells #[.int .i64 mo, .int .i64 li, .slice none 0 0] 28) := ⟨_, rfl⟩
  obtain ⟨base, hbase⟩ : ∃ base, base = w4.heap.size := ⟨_, rfl⟩
  obtain ⟨A, hA⟩ : ∃ A, A = w1.heap.size := ⟨_, rfl⟩
  obtain ⟨B, hB⟩ : ∃ B, B = w2.heap.size := ⟨_, rfl⟩
  have T4 := Lib.hid (show Two9 w0 b A B M base mo li (.slice none 0 0) [] [] w4 by
    have s1 := HB1.out.size
    have s2 := HB2.out.size
    have s3 := HB3.out.size
    have hb4 : Below w3.heap.size w3 w4 := by rw [hw4]; exact (Below.refl _ _).alloc (Nat.le_refl _) _
    refine ⟨?_, Own.nil _ _ _ _ _, ?_, ⟨by omega, by omega, by omega, ?_, by omega⟩, HB1.out.trans ((HB2.out.trans ((HB3.out.trans (hb4.mono HB3.out.size)).mono HB2.out.size)).mono HB1.out.size)⟩
    · rw [hA, hB]
      exact HT2.out.keep (fun k _ hk => ((HB3.out.trans (hb4.mono HB3.out.size)).block k hk))
    · rw [hw4, hM]; exact Blk.new _ _ _
    · rw [hbase, hw4, hM]; simp)
  rw [← hw4, ← hM]
  clear hM hw4 hbase hA hB HB1 HB2 HB3 HT2
  rename_i KE hKE
  have HKE := Lib.hid hKE
  clear hKE
  go_loopw [9] (fun i wr => ∃ (k : Nat) (l : List En) (v : Value), k ≤ len ∧ k ≤ 80 ∧ i = .int .i64 k ∧ Two9 w0 b A B M base mo li v l l wr ∧ Gd mo li l) (fun i _ => (80 - intOf i).toNat)
  case atStart => exact ⟨0, [], _, by omega, by omega, rfl, T4.out, Gd.nil (by have := MO.out; omega)⟩
  case round =>
    obtain ⟨k, l, v, hk, hk2, rfl, hT, hG⟩ := hrel
    have HT := Lib.hid hT
    have HG := Lib.hid hG
    clear hT hG T4
    by_cases hlt : k < len ∧ k < 80
    · obtain ⟨h1, h2⟩ := hlt
      obtain ⟨x, hx⟩ : ∃ x, acts[k]? = some x := ⟨_, List.getElem?_eq_getElem (show k < acts.length by rw [HL.out]; exact h1)⟩
      have HXO := Lib.hid (HOK.out x (List.mem_of_getElem? hx))
      rcases HR.out with hnil | ⟨ab, off, rfl, hab, hcells⟩
      · rw [hnil] at hx; simp at hx
      obtain ⟨arr, harr⟩ : ∃ arr, arr = acA9 x := ⟨_, rfl⟩
      have hrg := Lib.hid (show wr.rangeAt ab (off + k * 10) arr.toList by
        intro j u hu
        rw [harr] at hu
        have q := hcells k x hx j u hu
        rw [Nat.add_assoc, (HT.out.below).cell (p := ⟨ab, off + (k * 10 + j), none⟩) hab]
        exact q)
      have hz9 := Lib.hid (show (Try.prog.info? 33).map (·.size) = some arr.size by rw [harr]; exact acSize9)
      have hzz := Lib.hid (show acNil9.size = arr.size by rw [harr]; rfl)
      have hone := Lib.hid (show arr.all (·.oneCell') = true by rw [harr]; simp [Value.oneCell'])
      have HARR := Lib.hid harr
      have hkc : k ≤ cap := by have := HC.out.1; omega
      clear hcells hx harr
      have R0 := Lib.hid (show (wr.alloc (.cells acNil9 33)).heap[wr.heap.size]? = some (.cells acNil9 33 (0, 0)) from heap_alloc_new wr _)
      have K0 := Lib.hid (show Kn wr [(wr.heap.size, arr, 33)] ((wr.alloc (.cells acNil9 33)).setRow wr.heap.size arr) from (Kn.nil wr).laid arr acNil9 33)
      go_upto_region 8 with (first
        | (refine wpList_val (.agg arr) (by rfl) (run_loadRange 33 _ rfl ab (off + k * 10) rfl arr _ hrg.out Try.underlying33 rfl hz9.out) ?_)
        | (refine wpList_store_row rfl 33 _ _ rfl wr.heap.size arr rfl rfl 33 acNil9 R0.out hz9.out hzz.out hone.out ?_))
      obtain ⟨W1, hW1⟩ : ∃ W, W = (wr.alloc (.cells acNil9 33)).setRow wr.heap.size arr := ⟨_, rfl⟩
      rw [← hW1] at K0 ⊢
      have BK1 := Lib.hid (show Blk W1 wr.heap.size (acA9 x) 33 by have := K0.out.at 0 rfl; rw [HARR.out] at this; exact this)
      obtain ⟨c, hcc⟩ : ∃ c, wr.heap.size = c := ⟨_, rfl⟩
      have HCB := Lib.hid (show base ≤ c by rw [← hcc]; exact HT.out.low.2.2.2.2)
      have J1 := Lib.hid (HT.out.next K0.out.below)
      rw [hcc] at BK1 ⊢
      clear hW1 K0 R0 hrg hcc HT hz9 hzz hone HARR
      have hc0 : W1.cell? ⟨c, 0, none⟩ = (acA9 x)[0]? := BK1.out.cell 0
      simp only [acA9, List.getElem?_toArray, List.getElem?_cons_succ, List.getElem?_cons_zero] at hc0
      have hc1 : W1.cell? ⟨c, 1, none⟩ = (acA9 x)[1]? := BK1.out.cell 1
      simp only [acA9, List.getElem?_toArray, List.getElem?_cons_succ, List.getElem?_cons_zero] at hc1
      have hc2 : W1.cell? ⟨c, 2, none⟩ = (acA9 x)[2]? := BK1.out.cell 2
      simp only [acA9, List.getElem?_toArray, List.getElem?_cons_succ, List.getElem?_cons_zero] at hc2
      have hc3 : W1.cell? ⟨c, 3, none⟩ = (acA9 x)[3]? := BK1.out.cell 3
      simp only [acA9, List.getElem?_toArray, List.getElem?_cons_succ, List.getElem?_cons_zero] at hc3
      have hc4 : W1.cell? ⟨c, 4, none⟩ = (acA9 x)[4]? := BK1.out.cell 4
      simp only [acA9, List.getElem?_toArray, List.getElem?_cons_succ, List.getElem?_cons_zero] at hc4
      have hc5 : W1.cell? ⟨c, 5, none⟩ = (acA9 x)[5]? := BK1.out.cell 5
      simp only [acA9, List.getElem?_toArray, List.getElem?_cons_succ, List.getElem?_cons_zero] at hc5
      have hc6 : W1.cell? ⟨c, 6, none⟩ = (acA9 x)[6]? := BK1.out.cell 6
      simp only [acA9, List.getElem?_toArray, List.getElem?_cons_succ, List.getElem?_cons_zero] at hc6
      have hc7 : W1.cell? ⟨c, 7, none⟩ = (acA9 x)[7]? := BK1.out.cell 7
      simp only [acA9, List.getElem?_toArray, List.getElem?_cons_succ, List.getElem?_cons_zero] at hc7
      have hc8 : W1.cell? ⟨c, 8, none⟩ = (acA9 x)[8]? := BK1.out.cell 8
      simp only [acA9, List.getElem?_toArray, List.getElem?_cons_succ, List.getElem?_cons_zero] at hc8
      have hc9 : W1.cell? ⟨c, 9, none⟩ = (acA9 x)[9]? := BK1.out.cell 9
      simp only [acA9, List.getElem?_toArray, List.getElem?_cons_succ, List.getElem?_cons_zero] at hc9
      go_upto_region 9 with fail
      obtain ⟨d, hdd⟩ : ∃ d, d = W1.heap.size := ⟨_, rfl⟩
      obtain ⟨W2, hW2⟩ : ∃ W2, W2 = W1.alloc (.cells (kyA x.vid x.mac) 36) := ⟨_, rfl⟩
      have b2 : Below W1.heap.size W1 W2 := by rw [hW2]; exact (Below.refl _ _).alloc (Nat.le_refl _) _
      have kd : Blk W2 d (kyA x.vid x.mac) 36 := by rw [hW2, hdd]; exact Blk.new _ _ _
      have BK2 := Lib.hid (BK1.out.below b2 BK1.out.lt)
      have KD2 := Lib.hid kd
      have J2 := Lib.hid (J1.out.next b2)
      have HDB := Lib.hid (show base ≤ d by rw [hdd]; exact J1.out.low.2.2.2.2)
      rw [← hdd, ← hW2]
      clear hW2 b2 kd hdd hc0 hc1 hc2 hc3 hc4 hc5 hc6 hc7 hc8 hc9
      have hc0 : W2.cell? ⟨c, 0, none⟩ = (acA9 x)[0]? := BK2.out.cell 0
      simp only [acA9, List.getElem?_toArray, List.getElem?_cons_succ, List.getElem?_cons_zero] at hc0
      have hc1 : W2.cell? ⟨c, 1, none⟩ = (acA9 x)[1]? := BK2.out.cell 1
      simp only [acA9, List.getElem?_toArray, List.getElem?_cons_succ, List.getElem?_cons_zero] at hc1
      have hc2 : W2.cell? ⟨c, 2, none⟩ = (acA9 x)[2]? := BK2.out.cell 2
      simp only [acA9, List.getElem?_toArray, List.getElem?_cons_succ, List.getElem?_cons_zero] at hc2
      have hc3 : W2.cell? ⟨c, 3, none⟩ = (acA9 x)[3]? := BK2.out.cell 3
      simp only [acA9, List.getElem?_toArray, List.getElem?_cons_succ, List.getElem?_cons_zero] at hc3
      have hc4 : W2.cell? ⟨c, 4, none⟩ = (acA9 x)[4]? := BK2.out.cell 4
      simp only [acA9, List.getElem?_toArray, List.getElem?_cons_succ, List.getElem?_cons_zero] at hc4
      have hc5 : W2.cell? ⟨c, 5, none⟩ = (acA9 x)[5]? := BK2.out.cell 5
      simp only [acA9, List.getElem?_toArray, List.getElem?_cons_succ, List.getElem?_cons_zero] at hc5
      have hc6 : W2.cell? ⟨c, 6, none⟩ = (acA9 x)[6]? := BK2.out.cell 6
      simp only [acA9, List.getElem?_toArray, List.getElem?_cons_succ, List.getElem?_cons_zero] at hc6
      have hc7 : W2.cell? ⟨c, 7, none⟩ = (acA9 x)[7]? := BK2.out.cell 7
      simp only [acA9, List.getElem?_toArray, List.getElem?_cons_succ, List.getElem?_cons_zero] at hc7
      have hc8 : W2.cell? ⟨c, 8, none⟩ = (acA9 x)[8]? := BK2.out.cell 8
      simp only [acA9, List.getElem?_toArray, List.getElem?_cons_succ, List.getElem?_cons_zero] at hc8
      have hc9 : W2.cell? ⟨c, 9, none⟩ = (acA9 x)[9]? := BK2.out.cell 9
      simp only [acA9, List.getElem?_toArray, List.getElem?_cons_succ, List.getElem?_cons_zero] at hc9
      go_upto_region 10 with fail
      obtain ⟨e0, he0⟩ : ∃ e0, e0 = W2.heap.size := ⟨_, rfl⟩
      obtain ⟨W3, hW3⟩ : ∃ W3, W3 = W2.alloc (.cells #[.int .u16 (x.vid : Nat), .int .u8 (byteF x.mac 0 : Nat), .int .u8 (byteF x.mac 1 : Nat), .int .u8 (byteF x.mac 2 : Nat), .int .u8 (byteF x.mac 3 : Nat), .int .u8 (byteF x.mac 4 : Nat), .int .u8 (byteF x.mac 5 : Nat), .int .i64 x.port, .int .i64 x.age] 38) := ⟨_, rfl⟩
      have b3 : Below W2.heap.size W2 W3 := by rw [hW3]; exact (Below.refl _ _).alloc (Nat.le_refl _) _
      have ke : Blk W3 e0 (enA ⟨x.vid, x.mac, x.port, x.age⟩) 38 := by rw [he0, hW3]; exact Blk.new _ _ _
      have R3 := Lib.hid (show Rd9 w0 b A B M base mo li c d e0 x v l l W3 from ⟨J2.out.next b3, BK2.out.below b3 BK2.out.lt, KD2.out.below b3 KD2.out.lt, ke, ⟨HCB.out, HDB.out, by rw [he0]; exact J2.out.low.2.2.2.2⟩⟩)
      rw [← he0, ← hW3]
      clear hW3 b3 ke he0 hc0 hc1 hc2 hc3 hc4 hc5 hc6 hc7 hc8 hc9
      go_cut [13, 14] (fun s t wx => s = .int .i64 0 ∧ t = .int .i64 0 ∧ Rd9 w0 b A B M base mo li c d e0 x v l l wx)
      case first =>
        go_wp2_with fail
        go_meet
        exact ⟨rfl, rfl, R3.out⟩
      case rest =>
        obtain ⟨rfl, rfl, hR⟩ := hcut
        rename ∀ (a : Act) (w : World), Code.wp Try.prog (tail9 11) _ a w → _ => hK11
        have hwh : x.what % 8 < 3 ∨ x.what % 8 = 3 ∨ x.what % 8 = 4 ∨ x.what % 8 = 5 ∨ x.what % 8 = 6 ∨ x.what % 8 = 7 := by omega
        rcases hwh with hw | hw | hw | hw | hw | hw
        · refine hK11 _ _ (a_learn w0 b A B M base mo li v l c d e0 x MO LI HXO HG _ _ _ _ _ _ _ _ _ _ _ _ _ _ _ _ _ _ _ _ _ _ _ _ _ _ _ _ _ _ _ _ _ _ _ _ _ _ _ _ _ _ _ _ _ _ _ _ _ _ _ _ _ _ _ _ _ _ _ _ _ _ _ _ _ _ _ _ _ _ _ _ _ _ _ _ _ _ _ _ _ _ _ _ _ _ _ _ _ _ _ _ _ _ _ _ _ _ _ _ _ _ _ _ _ _ _ _ _ _ _ _ _ _ _ _ _ _ _ _ _ _ _ _ _ _ _ _ _ _ _ _ _ _ _ _ _ _ _ _ _ _ _ _ _ _ _ _ _ _ _ _ _ _ _ _ _ _ _ _ _ _ _ _ _ _ _ _ _ _ _ _ _ _ _ _ _ _ _ _ _ _ _ _ _ _ _ _ _ _ _ _ _ _ _ _ _ _ _ _ _ _ _ _ _ _ _ _ _ _ _ _ _ _ _ _ _ _ _ _ _ _ _ _ _ _ _ _ _ _ _ _ _ _ _ _ _ _ _ _ _ _ _ _ _ _ _ _ _ _ _ _ _ _ _ _ _ _ _ _ _ _ _ _ _ _ _ _ _ _ _ _ _ _ _ _ _ _ _ _ _ _ _ _ _ _ _ hR (by omega) ?_ ?_)
          · intro u6 u13 u14 u15 u16 u17 u18 u19 u20 u21 u22 u23 u24 u25 u26 u68 u69 u70 u71 u72 u73 u74 u75 u76 u77 u78 u79 u80 u81 u82 u83 u84 u85 u86 u87 u88 u89 u90 u91 u92 u93 u94 u95 u96 u97 u98 u99 u100 u101 u102 u103 u104 u105 u106 u107 u108 u109 u110 u111 u112 u113 u114 u115 u116 u117 u118 u119 u120 u121 u122 u123 u124 u125 u126 u127 u128 u129 u130 u131 u132 u133 u134 u135 u136 u137 u138 u139 u140 u141 u142 u143 u144 u145 u146 u147 u148 u149 u150 u151 u152 u153 u154 u155 u156 u157 u158 u159 u160 u161 u162 u163 u164 u165 u166 u167 u168 u169 u170 u171 u172 u173 u174 u175 u176 u177 u178 u179 u180 u181 u182 u183 u184 u185 u186 u187 u188 u189 u190 u191 u192 u193 u194 u195 u196 u197 u198 u199 u200 u201 u202 u203 u204 u205 u206 u207 u208 u209 u210 u211 u212 u213 u214 u215 u216 u217 u218 u219 u220 u221 u222 u223 u224 u225 u226 u227 u228 u229 u230 u231 u232 u233 u234 u235 u236 u237 u238 u239 u240 u241 u242 u243 u244 u245 u246 u247 u248 u249 u250 v' l' wx hT hG
            have TX := Lib.hid hT
            have GX := Lib.hid hG
            clear hT hG
            simp only [Exit.then, Exit.inBlock]
            go_wp2_with fail
            go_roundw
            case rel => exact ⟨k + 1, l', v', by omega, by omega, by go_num, TX.out, GX.out⟩
            case measure => simp [intOf]; omega
          · intro u6 u13 u14 u15 u16 u17 u18 u19 u20 u21 u22 u23 u24 u25 u26 u68 u69 u70 u71 u72 u73 u74 u75 u76 u77 u78 u79 u80 u81 u82 u83 u84 u85 u86 u87 u88 u89 u90 u91 u92 u93 u94 u95 u96 u97 u98 u99 u100 u101 u102 u103 u104 u105 u106 u107 u108 u109 u110 u111 u112 u113 u114 u115 u116 u117 u118 u119 u120 u121 u122 u123 u124 u125 u126 u127 u128 u129 u130 u131 u132 u133 u134 u135 u136 u137 u138 u139 u140 u141 u142 u143 u144 u145 u146 u147 u148 u149 u150 u151 u152 u153 u154 u155 u156 u157 u158 u159 u160 u161 u162 u163 u164 u165 u166 u167 u168 u169 u170 u171 u172 u173 u174 u175 u176 u177 u178 u179 u180 u181 u182 u183 u184 u185 u186 u187 u188 u189 u190 u191 u192 u193 u194 u195 u196 u197 u198 u199 u200 u201 u202 u203 u204 u205 u206 u207 u208 u209 u210 u211 u212 u213 u214 u215 u216 u217 u218 u219 u220 u221 u222 u223 u224 u225 u226 u227 u228 u229 u230 u231 u232 u233 u234 u235 u236 u237 u238 u239 u240 u241 u242 u243 u244 u245 u246 u247 u248 u249 u250 wx hT
            have TX := Lib.hid hT
            clear hT
            simp only [Exit.then, Exit.inBlock]
            go_wp2_with fail
            go_roundw
            case rel => exact ⟨k + 1, l, v, by omega, by omega, by go_num, TX.out, HG.out⟩
            case measure => simp [intOf]; omega
        · refine hK11 _ _ (a_tick w0 b A B M base mo li v l c d e0 x MO LI HXO HG _ _ _ _ _ _ _ _ _ _ _ _ _ _ _ _ _ _ _ _ _ _ _ _ _ _ _ _ _ _ _ _ _ _ _ _ _ _ _ _ _ _ _ _ _ _ _ _ _ _ _ _ _ _ _ _ _ _ _ _ _ _ _ _ _ _ _ _ _ _ _ _ _ _ _ _ _ _ _ _ _ _ _ _ _ _ _ _ _ _ _ _ _ _ _ _ _ _ _ _ _ _ _ _ _ _ _ _ _ _ _ _ _ _ _ _ _ _ _ _ _ _ _ _ _ _ _ _ _ _ _ _ _ _ _ _ _ _ _ _ _ _ _ _ _ _ _ _ _ _ _ _ _ _ _ _ _ _ _ _ _ _ _ _ _ _ _ _ _ _ _ _ _ _ _ _ _ _ _ _ _ _ _ _ _ _ _ _ _ _ _ _ _ _ _ _ _ _ _ _ _ _ _ _ _ _ _ _ _ _ _ _ _ _ _ _ _ _ _ _ _ _ _ _ _ _ _ _ _ _ _ _ _ _ _ _ _ _ _ _ _ _ _ _ _ _ _ _ _ _ _ _ _ _ _ _ _ _ _ _ _ _ _ _ _ _ _ _ _ _ _ _ _ _ _ _ _ _ _ _ _ _ _ _ _ _ _ hR (by omega) ?_ ?_)
          · intro u6 u13 u14 u15 u16 u17 u18 u19 u20 u21 u22 u23 u24 u25 u26 u68 u69 u70 u71 u72 u73 u74 u75 u76 u77 u78 u79 u80 u81 u82 u83 u84 u85 u86 u87 u88 u89 u90 u91 u92 u93 u94 u95 u96 u97 u98 u99 u100 u101 u102 u103 u104 u105 u106 u107 u108 u109 u110 u111 u112 u113 u114 u115 u116 u117 u118 u119 u120 u121 u122 u123 u124 u125 u126 u127 u128 u129 u130 u131 u132 u133 u134 u135 u136 u137 u138 u139 u140 u141 u142 u143 u144 u145 u146 u147 u148 u149 u150 u151 u152 u153 u154 u155 u156 u157 u158 u159 u160 u161 u162 u163 u164 u165 u166 u167 u168 u169 u170 u171 u172 u173 u174 u175 u176 u177 u178 u179 u180 u181 u182 u183 u184 u185 u186 u187 u188 u189 u190 u191 u192 u193 u194 u195 u196 u197 u198 u199 u200 u201 u202 u203 u204 u205 u206 u207 u208 u209 u210 u211 u212 u213 u214 u215 u216 u217 u218 u219 u220 u221 u222 u223 u224 u225 u226 u227 u228 u229 u230 u231 u232 u233 u234 u235 u236 u237 u238 u239 u240 u241 u242 u243 u244 u245 u246 u247 u248 u249 u250 v' l' wx hT hG
            have TX := Lib.hid hT
            have GX := Lib.hid hG
            clear hT hG
            simp only [Exit.then, Exit.inBlock]
            go_wp2_with fail
            go_roundw
            case rel => exact ⟨k + 1, l', v', by omega, by omega, by go_num, TX.out, GX.out⟩
            case measure => simp [intOf]; omega
          · intro u6 u13 u14 u15 u16 u17 u18 u19 u20 u21 u22 u23 u24 u25 u26 u68 u69 u70 u71 u72 u73 u74 u75 u76 u77 u78 u79 u80 u81 u82 u83 u84 u85 u86 u87 u88 u89 u90 u91 u92 u93 u94 u95 u96 u97 u98 u99 u100 u101 u102 u103 u104 u105 u106 u107 u108 u109 u110 u111 u112 u113 u114 u115 u116 u117 u118 u119 u120 u121 u122 u123 u124 u125 u126 u127 u128 u129 u130 u131 u132 u133 u134 u135 u136 u137 u138 u139 u140 u141 u142 u143 u144 u145 u146 u147 u148 u149 u150 u151 u152 u153 u154 u155 u156 u157 u158 u159 u160 u161 u162 u163 u164 u165 u166 u167 u168 u169 u170 u171 u172 u173 u174 u175 u176 u177 u178 u179 u180 u181 u182 u183 u184 u185 u186 u187 u188 u189 u190 u191 u192 u193 u194 u195 u196 u197 u198 u199 u200 u201 u202 u203 u204 u205 u206 u207 u208 u209 u210 u211 u212 u213 u214 u215 u216 u217 u218 u219 u220 u221 u222 u223 u224 u225 u226 u227 u228 u229 u230 u231 u232 u233 u234 u235 u236 u237 u238 u239 u240 u241 u242 u243 u244 u245 u246 u247 u248 u249 u250 wx hT
            have TX := Lib.hid hT
            clear hT
            simp only [Exit.then, Exit.inBlock]
            go_wp2_with fail
            go_roundw
            case rel => exact ⟨k + 1, l, v, by omega, by omega, by go_num, TX.out, HG.out⟩
            case measure => simp [intOf]; omega
        · refine hK11 _ _ (a_flush w0 b A B M base mo li v l c d e0 x MO LI HXO HG _ _ _ _ _ _ _ _ _ _ _ _ _ _ _ _ _ _ _ _ _ _ _ _ _ _ _ _ _ _ _ _ _ _ _ _ _ _ _ _ _ _ _ _ _ _ _ _ _ _ _ _ _ _ _ _ _ _ _ _ _ _ _ _ _ _ _ _ _ _ _ _ _ _ _ _ _ _ _ _ _ _ _ _ _ _ _ _ _ _ _ _ _ _ _ _ _ _ _ _ _ _ _ _ _ _ _ _ _ _ _ _ _ _ _ _ _ _ _ _ _ _ _ _ _ _ _ _ _ _ _ _ _ _ _ _ _ _ _ _ _ _ _ _ _ _ _ _ _ _ _ _ _ _ _ _ _ _ _ _ _ _ _ _ _ _ _ _ _ _ _ _ _ _ _ _ _ _ _ _ _ _ _ _ _ _ _ _ _ _ _ _ _ _ _ _ _ _ _ _ _ _ _ _ _ _ _ _ _ _ _ _ _ _ _ _ _ _ _ _ _ _ _ _ _ _ _ _ _ _ _ _ _ _ _ _ _ _ _ _ _ _ _ _ _ _ _ _ _ _ _ _ _ _ _ _ _ _ _ _ _ _ _ _ _ _ _ _ _ _ _ _ _ _ _ _ _ _ _ _ _ _ _ _ _ _ _ hR (by omega) ?_ ?_)
          · intro u6 u13 u14 u15 u16 u17 u18 u19 u20 u21 u22 u23 u24 u25 u26 u68 u69 u70 u71 u72 u73 u74 u75 u76 u77 u78 u79 u80 u81 u82 u83 u84 u85 u86 u87 u88 u89 u90 u91 u92 u93 u94 u95 u96 u97 u98 u99 u100 u101 u102 u103 u104 u105 u106 u107 u108 u109 u110 u111 u112 u113 u114 u115 u116 u117 u118 u119 u120 u121 u122 u123 u124 u125 u126 u127 u128 u129 u130 u131 u132 u133 u134 u135 u136 u137 u138 u139 u140 u141 u142 u143 u144 u145 u146 u147 u148 u149 u150 u151 u152 u153 u154 u155 u156 u157 u158 u159 u160 u161 u162 u163 u164 u165 u166 u167 u168 u169 u170 u171 u172 u173 u174 u175 u176 u177 u178 u179 u180 u181 u182 u183 u184 u185 u186 u187 u188 u189 u190 u191 u192 u193 u194 u195 u196 u197 u198 u199 u200 u201 u202 u203 u204 u205 u206 u207 u208 u209 u210 u211 u212 u213 u214 u215 u216 u217 u218 u219 u220 u221 u222 u223 u224 u225 u226 u227 u228 u229 u230 u231 u232 u233 u234 u235 u236 u237 u238 u239 u240 u241 u242 u243 u244 u245 u246 u247 u248 u249 u250 v' l' wx hT hG
            have TX := Lib.hid hT
            have GX := Lib.hid hG
            clear hT hG
            simp only [Exit.then, Exit.inBlock]
            go_wp2_with fail
            go_roundw
            case rel => exact ⟨k + 1, l', v', by omega, by omega, by go_num, TX.out, GX.out⟩
            case measure => simp [intOf]; omega
          · intro u6 u13 u14 u15 u16 u17 u18 u19 u20 u21 u22 u23 u24 u25 u26 u68 u69 u70 u71 u72 u73 u74 u75 u76 u77 u78 u79 u80 u81 u82 u83 u84 u85 u86 u87 u88 u89 u90 u91 u92 u93 u94 u95 u96 u97 u98 u99 u100 u101 u102 u103 u104 u105 u106 u107 u108 u109 u110 u111 u112 u113 u114 u115 u116 u117 u118 u119 u120 u121 u122 u123 u124 u125 u126 u127 u128 u129 u130 u131 u132 u133 u134 u135 u136 u137 u138 u139 u140 u141 u142 u143 u144 u145 u146 u147 u148 u149 u150 u151 u152 u153 u154 u155 u156 u157 u158 u159 u160 u161 u162 u163 u164 u165 u166 u167 u168 u169 u170 u171 u172 u173 u174 u175 u176 u177 u178 u179 u180 u181 u182 u183 u184 u185 u186 u187 u188 u189 u190 u191 u192 u193 u194 u195 u196 u197 u198 u199 u200 u201 u202 u203 u204 u205 u206 u207 u208 u209 u210 u211 u212 u213 u214 u215 u216 u217 u218 u219 u220 u221 u222 u223 u224 u225 u226 u227 u228 u229 u230 u231 u232 u233 u234 u235 u236 u237 u238 u239 u240 u241 u242 u243 u244 u245 u246 u247 u248 u249 u250 wx hT
            have TX := Lib.hid hT
            clear hT
            simp only [Exit.then, Exit.inBlock]
            go_wp2_with fail
            go_roundw
            case rel => exact ⟨k + 1, l, v, by omega, by omega, by go_num, TX.out, HG.out⟩
            case measure => simp [intOf]; omega
        · refine hK11 _ _ (a_drop w0 b A B M base mo li v l c d e0 x MO LI HXO HG _ _ _ _ _ _ _ _ _ _ _ _ _ _ _ _ _ _ _ _ _ _ _ _ _ _ _ _ _ _ _ _ _ _ _ _ _ _ _ _ _ _ _ _ _ _ _ _ _ _ _ _ _ _ _ _ _ _ _ _ _ _ _ _ _ _ _ _ _ _ _ _ _ _ _ _ _ _ _ _ _ _ _ _ _ _ _ _ _ _ _ _ _ _ _ _ _ _ _ _ _ _ _ _ _ _ _ _ _ _ _ _ _ _ _ _ _ _ _ _ _ _ _ _ _ _ _ _ _ _ _ _ _ _ _ _ _ _ _ _ _ _ _ _ _ _ _ _ _ _ _ _ _ _ _ _ _ _ _ _ _ _ _ _ _ _ _ _ _ _ _ _ _ _ _ _ _ _ _ _ _ _ _ _ _ _ _ _ _ _ _ _ _ _ _ _ _ _ _ _ _ _ _ _ _ _ _ _ _ _ _ _ _ _ _ _ _ _ _ _ _ _ _ _ _ _ _ _ _ _ _ _ _ _ _ _ _ _ _ _ _ _ _ _ _ _ _ _ _ _ _ _ _ _ _ _ _ _ _ _ _ _ _ _ _ _ _ _ _ _ _ _ _ _ _ _ _ _ _ _ _ _ _ _ _ _ _ hR (by omega) ?_ ?_)
          · intro u6 u13 u14 u15 u16 u17 u18 u19 u20 u21 u22 u23 u24 u25 u26 u68 u69 u70 u71 u72 u73 u74 u75 u76 u77 u78 u79 u80 u81 u82 u83 u84 u85 u86 u87 u88 u89 u90 u91 u92 u93 u94 u95 u96 u97 u98 u99 u100 u101 u102 u103 u104 u105 u106 u107 u108 u109 u110 u111 u112 u113 u114 u115 u116 u117 u118 u119 u120 u121 u122 u123 u124 u125 u126 u127 u128 u129 u130 u131 u132 u133 u134 u135 u136 u137 u138 u139 u140 u141 u142 u143 u144 u145 u146 u147 u148 u149 u150 u151 u152 u153 u154 u155 u156 u157 u158 u159 u160 u161 u162 u163 u164 u165 u166 u167 u168 u169 u170 u171 u172 u173 u174 u175 u176 u177 u178 u179 u180 u181 u182 u183 u184 u185 u186 u187 u188 u189 u190 u191 u192 u193 u194 u195 u196 u197 u198 u199 u200 u201 u202 u203 u204 u205 u206 u207 u208 u209 u210 u211 u212 u213 u214 u215 u216 u217 u218 u219 u220 u221 u222 u223 u224 u225 u226 u227 u228 u229 u230 u231 u232 u233 u234 u235 u236 u237 u238 u239 u240 u241 u242 u243 u244 u245 u246 u247 u248 u249 u250 v' l' wx hT hG
            have TX := Lib.hid hT
            have GX := Lib.hid hG
            clear hT hG
            simp only [Exit.then, Exit.inBlock]
            go_wp2_with fail
            go_roundw
            case rel => exact ⟨k + 1, l', v', by omega, by omega, by go_num, TX.out, GX.out⟩
            case measure => simp [intOf]; omega
          · intro u6 u13 u14 u15 u16 u17 u18 u19 u20 u21 u22 u23 u24 u25 u26 u68 u69 u70 u71 u72 u73 u74 u75 u76 u77 u78 u79 u80 u81 u82 u83 u84 u85 u86 u87 u88 u89 u90 u91 u92 u93 u94 u95 u96 u97 u98 u99 u100 u101 u102 u103 u104 u105 u106 u107 u108 u109 u110 u111 u112 u113 u114 u115 u116 u117 u118 u119 u120 u121 u122 u123 u124 u125 u126 u127 u128 u129 u130 u131 u132 u133 u134 u135 u136 u137 u138 u139 u140 u141 u142 u143 u144 u145 u146 u147 u148 u149 u150 u151 u152 u153 u154 u155 u156 u157 u158 u159 u160 u161 u162 u163 u164 u165 u166 u167 u168 u169 u170 u171 u172 u173 u174 u175 u176 u177 u178 u179 u180 u181 u182 u183 u184 u185 u186 u187 u188 u189 u190 u191 u192 u193 u194 u195 u196 u197 u198 u199 u200 u201 u202 u203 u204 u205 u206 u207 u208 u209 u210 u211 u212 u213 u214 u215 u216 u217 u218 u219 u220 u221 u222 u223 u224 u225 u226 u227 u228 u229 u230 u231 u232 u233 u234 u235 u236 u237 u238 u239 u240 u241 u242 u243 u244 u245 u246 u247 u248 u249 u250 wx hT
            have TX := Lib.hid hT
            clear hT
            simp only [Exit.then, Exit.inBlock]
            go_wp2_with fail
            go_roundw
            case rel => exact ⟨k + 1, l, v, by omega, by omega, by go_num, TX.out, HG.out⟩
            case measure => simp [intOf]; omega
        · refine hK11 _ _ (a_put w0 b A B M base mo li v l c d e0 x MO LI HXO HG _ _ _ _ _ _ _ _ _ _ _ _ _ _ _ _ _ _ _ _ _ _ _ _ _ _ _ _ _ _ _ _ _ _ _ _ _ _ _ _ _ _ _ _ _ _ _ _ _ _ _ _ _ _ _ _ _ _ _ _ _ _ _ _ _ _ _ _ _ _ _ _ _ _ _ _ _ _ _ _ _ _ _ _ _ _ _ _ _ _ _ _ _ _ _ _ _ _ _ _ _ _ _ _ _ _ _ _ _ _ _ _ _ _ _ _ _ _ _ _ _ _ _ _ _ _ _ _ _ _ _ _ _ _ _ _ _ _ _ _ _ _ _ _ _ _ _ _ _ _ _ _ _ _ _ _ _ _ _ _ _ _ _ _ _ _ _ _ _ _ _ _ _ _ _ _ _ _ _ _ _ _ _ _ _ _ _ _ _ _ _ _ _ _ _ _ _ _ _ _ _ _ _ _ _ _ _ _ _ _ _ _ _ _ _ _ _ _ _ _ _ _ _ _ _ _ _ _ _ _ _ _ _ _ _ _ _ _ _ _ _ _ _ _ _ _ _ _ _ _ _ _ _ _ _ _ _ _ _ _ _ _ _ _ _ _ _ _ _ _ _ _ _ _ _ _ _ _ _ _ _ _ _ _ _ _ _ hR (by omega) ?_ ?_)
          · intro u6 u13 u14 u15 u16 u17 u18 u19 u20 u21 u22 u23 u24 u25 u26 u68 u69 u70 u71 u72 u73 u74 u75 u76 u77 u78 u79 u80 u81 u82 u83 u84 u85 u86 u87 u88 u89 u90 u91 u92 u93 u94 u95 u96 u97 u98 u99 u100 u101 u102 u103 u104 u105 u106 u107 u108 u109 u110 u111 u112 u113 u114 u115 u116 u117 u118 u119 u120 u121 u122 u123 u124 u125 u126 u127 u128 u129 u130 u131 u132 u133 u134 u135 u136 u137 u138 u139 u140 u141 u142 u143 u144 u145 u146 u147 u148 u149 u150 u151 u152 u153 u154 u155 u156 u157 u158 u159 u160 u161 u162 u163 u164 u165 u166 u167 u168 u169 u170 u171 u172 u173 u174 u175 u176 u177 u178 u179 u180 u181 u182 u183 u184 u185 u186 u187 u188 u189 u190 u191 u192 u193 u194 u195 u196 u197 u198 u199 u200 u201 u202 u203 u204 u205 u206 u207 u208 u209 u210 u211 u212 u213 u214 u215 u216 u217 u218 u219 u220 u221 u222 u223 u224 u225 u226 u227 u228 u229 u230 u231 u232 u233 u234 u235 u236 u237 u238 u239 u240 u241 u242 u243 u244 u245 u246 u247 u248 u249 u250 v' l' wx hT hG
            have TX := Lib.hid hT
            have GX := Lib.hid hG
            clear hT hG
            simp only [Exit.then, Exit.inBlock]
            go_wp2_with fail
            go_roundw
            case rel => exact ⟨k + 1, l', v', by omega, by omega, by go_num, TX.out, GX.out⟩
            case measure => simp [intOf]; omega
          · intro u6 u13 u14 u15 u16 u17 u18 u19 u20 u21 u22 u23 u24 u25 u26 u68 u69 u70 u71 u72 u73 u74 u75 u76 u77 u78 u79 u80 u81 u82 u83 u84 u85 u86 u87 u88 u89 u90 u91 u92 u93 u94 u95 u96 u97 u98 u99 u100 u101 u102 u103 u104 u105 u106 u107 u108 u109 u110 u111 u112 u113 u114 u115 u116 u117 u118 u119 u120 u121 u122 u123 u124 u125 u126 u127 u128 u129 u130 u131 u132 u133 u134 u135 u136 u137 u138 u139 u140 u141 u142 u143 u144 u145 u146 u147 u148 u149 u150 u151 u152 u153 u154 u155 u156 u157 u158 u159 u160 u161 u162 u163 u164 u165 u166 u167 u168 u169 u170 u171 u172 u173 u174 u175 u176 u177 u178 u179 u180 u181 u182 u183 u184 u185 u186 u187 u188 u189 u190 u191 u192 u193 u194 u195 u196 u197 u198 u199 u200 u201 u202 u203 u204 u205 u206 u207 u208 u209 u210 u211 u212 u213 u214 u215 u216 u217 u218 u219 u220 u221 u222 u223 u224 u225 u226 u227 u228 u229 u230 u231 u232 u233 u234 u235 u236 u237 u238 u239 u240 u241 u242 u243 u244 u245 u246 u247 u248 u249 u250 wx hT
            have TX := Lib.hid hT
            clear hT
            simp only [Exit.then, Exit.inBlock]
            go_wp2_with fail
            go_roundw
            case rel => exact ⟨k + 1, l, v, by omega, by omega, by go_num, TX.out, HG.out⟩
            case measure => simp [intOf]; omega
        · refine hK11 _ _ (a_find w0 b A B M base mo li v l c d e0 x MO LI HXO HG _ _ _ _ _ _ _ _ _ _ _ _ _ _ _ _ _ _ _ _ _ _ _ _ _ _ _ _ _ _ _ _ _ _ _ _ _ _ _ _ _ _ _ _ _ _ _ _ _ _ _ _ _ _ _ _ _ _ _ _ _ _ _ _ _ _ _ _ _ _ _ _ _ _ _ _ _ _ _ _ _ _ _ _ _ _ _ _ _ _ _ _ _ _ _ _ _ _ _ _ _ _ _ _ _ _ _ _ _ _ _ _ _ _ _ _ _ _ _ _ _ _ _ _ _ _ _ _ _ _ _ _ _ _ _ _ _ _ _ _ _ _ _ _ _ _ _ _ _ _ _ _ _ _ _ _ _ _ _ _ _ _ _ _ _ _ _ _ _ _ _ _ _ _ _ _ _ _ _ _ _ _ _ _ _ _ _ _ _ _ _ _ _ _ _ _ _ _ _ _ _ _ _ _ _ _ _ _ _ _ _ _ _ _ _ _ _ _ _ _ _ _ _ _ _ _ _ _ _ _ _ _ _ _ _ _ _ _ _ _ _ _ _ _ _ _ _ _ _ _ _ _ _ _ _ _ _ _ _ _ _ _ _ _ _ _ _ _ _ _ _ _ _ _ _ _ _ _ _ _ _ _ _ _ _ _ _ hR (by omega) ?_ ?_)
          · intro u6 u13 u14 u15 u16 u17 u18 u19 u20 u21 u22 u23 u24 u25 u26 u68 u69 u70 u71 u72 u73 u74 u75 u76 u77 u78 u79 u80 u81 u82 u83 u84 u85 u86 u87 u88 u89 u90 u91 u92 u93 u94 u95 u96 u97 u98 u99 u100 u101 u102 u103 u104 u105 u106 u107 u108 u109 u110 u111 u112 u113 u114 u115 u116 u117 u118 u119 u120 u121 u122 u123 u124 u125 u126 u127 u128 u129 u130 u131 u132 u133 u134 u135 u136 u137 u138 u139 u140 u141 u142 u143 u144 u145 u146 u147 u148 u149 u150 u151 u152 u153 u154 u155 u156 u157 u158 u159 u160 u161 u162 u163 u164 u165 u166 u167 u168 u169 u170 u171 u172 u173 u174 u175 u176 u177 u178 u179 u180 u181 u182 u183 u184 u185 u186 u187 u188 u189 u190 u191 u192 u193 u194 u195 u196 u197 u198 u199 u200 u201 u202 u203 u204 u205 u206 u207 u208 u209 u210 u211 u212 u213 u214 u215 u216 u217 u218 u219 u220 u221 u222 u223 u224 u225 u226 u227 u228 u229 u230 u231 u232 u233 u234 u235 u236 u237 u238 u239 u240 u241 u242 u243 u244 u245 u246 u247 u248 u249 u250 v' l' wx hT hG
            have TX := Lib.hid hT
            have GX := Lib.hid hG
            clear hT hG
            simp only [Exit.then, Exit.inBlock]
            go_wp2_with fail
            go_roundw
            case rel => exact ⟨k + 1, l', v', by omega, by omega, by go_num, TX.out, GX.out⟩
            case measure => simp [intOf]; omega
          · intro u6 u13 u14 u15 u16 u17 u18 u19 u20 u21 u22 u23 u24 u25 u26 u68 u69 u70 u71 u72 u73 u74 u75 u76 u77 u78 u79 u80 u81 u82 u83 u84 u85 u86 u87 u88 u89 u90 u91 u92 u93 u94 u95 u96 u97 u98 u99 u100 u101 u102 u103 u104 u105 u106 u107 u108 u109 u110 u111 u112 u113 u114 u115 u116 u117 u118 u119 u120 u121 u122 u123 u124 u125 u126 u127 u128 u129 u130 u131 u132 u133 u134 u135 u136 u137 u138 u139 u140 u141 u142 u143 u144 u145 u146 u147 u148 u149 u150 u151 u152 u153 u154 u155 u156 u157 u158 u159 u160 u161 u162 u163 u164 u165 u166 u167 u168 u169 u170 u171 u172 u173 u174 u175 u176 u177 u178 u179 u180 u181 u182 u183 u184 u185 u186 u187 u188 u189 u190 u191 u192 u193 u194 u195 u196 u197 u198 u199 u200 u201 u202 u203 u204 u205 u206 u207 u208 u209 u210 u211 u212 u213 u214 u215 u216 u217 u218 u219 u220 u221 u222 u223 u224 u225 u226 u227 u228 u229 u230 u231 u232 u233 u234 u235 u236 u237 u238 u239 u240 u241 u242 u243 u244 u245 u246 u247 u248 u249 u250 wx hT
            have TX := Lib.hid hT
            clear hT
            simp only [Exit.then, Exit.inBlock]
            go_wp2_with fail
            go_roundw
            case rel => exact ⟨k + 1, l, v, by omega, by omega, by go_num, TX.out, HG.out⟩
            case measure => simp [intOf]; omega
    · have HE := Lib.hid (show ¬ (k : Int) < (len : Int) ∨ ((k : Int) < (len : Int) ∧ ¬ (k : Int) < 80) by omega)
      clear hlt hk hk2
      rcases HE.out with g1 | ⟨g1, g2⟩
      all_goals
        go_wp2_with fail
        exact HKE.out _ _ (t49 w0 _ _ _ _ _ _ _ _ _ _ _ _ _ _ _ _ _ _ _ _ _ _ _ _ _ _ _ _ _ _ _ _ _ _ _ _ _ _ _ _ _ _ _ _ _ _ _ _ _ _ _ _ _ _ _ _ _ _ _ _ _ _ _ _ _ _ _ _ _ _ _ _ _ _ _ _ _ _ _ _ _ _ _ _ _ _ _ _ _ _ _ _ _ _ _ _ _ _ _ _ _ _ _ _ _ _ _ _ _ _ _ _ _ _ _ _ _ _ _ _ _ _ _ _ _ _ _ _ _ _ _ _ _ _ _ _ _ _ _ _ _ _ _ _ _ _ _ _ _ _ _ _ _ _ _ _ _ _ _ _ _ _ _ _ _ _ _ _ _ _ _ _ _ _ _ _ _ _ _ _ _ _ _ _ _ _ _ _ _ _ _ _ _ _ _ _ _ _ _ _ _ _ _ _ _ _ _ _ _ _ _ _ _ _ _ _ _ _ _ _ _ _ _ _ _ _ _ _ _ _ _ _ _ _ _ _ _ _ _ _ _ _ _ _ _ _ _ _ _ _ _ _ _ _ _ _ _ _ _ _ _ _ _ _ _ _ _ _ _ _ _ _ _ _ _ _ _ _ _ _ _ _ _ _ _ _ _ _ _ _ _ _ wr HT.out.below)
end Go.Proofs.Ytilklfmcdgggfaa
end
section
namespace Go.Proofs.Ytilklfmcdgggfaa
open Go.RowKit
set_option linter.unusedVariables false
theorem fplays_law (x y : Int) (a : Option Addr) (len cap : Nat) (acts : List Ac9) (w : World) (hx : (Lit.int .i64 x).wf = true) (hy : (Lit.int .i64 y).wf = true) (h : IsArg33 w a len cap acts) :
    Calls Try.prog 3 #[.int .i64 x, .int .i64 y, .slice a len cap] w fun e w' => e = .returned (.bool true) ∧ Below w.heap.size w w' := fplays_walk x y a len cap acts w h
end Go.Proofs.Ytilklfmcdgggfaa
end
