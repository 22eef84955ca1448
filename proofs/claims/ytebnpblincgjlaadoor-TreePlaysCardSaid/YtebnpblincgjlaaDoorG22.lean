import Derived.Test.YtebnpblincgjlaaDoorG21
set_option linter.unusedSimpArgs false
set_option linter.unusedVariables false
namespace Go.Proofs.YtebnpblincgjlaaDoor
section
open Go.RowKit
theorem ahead_iff (x y : Rp) : aheadB x y = true ↔
 (plusV x.v x.c).r < (plusV y.v y.c).r ∨ ((plusV x.v x.c).r = (plusV y.v y.c).r ∧ ((plusV x.v x.c).c < (plusV y.v y.c).c ∨ ((plusV x.v x.c).c = (plusV y.v y.c).c ∧ ((plusV x.v x.c).b < (plusV y.v y.c).b ∨ ((plusV x.v x.c).b = (plusV y.v y.c).b ∧ ((plusV x.v x.c).p < (plusV y.v y.c).p ∨ ((plusV x.v x.c).p = (plusV y.v y.c).p ∧ x.i < y.i))))))) := by
 unfold aheadB
 generalize plusV x.v x.c = a
 generalize plusV y.v y.c = b
 by_cases e : eqV a b = true
 ·
  rw [if_pos e]
  simp [eqV] at e
  obtain ⟨⟨⟨e1, e2⟩, e3⟩, e4⟩ := e
  rw [decide_eq_true_iff]
  omega
 ·
  rw [if_neg e]
  simp [eqV] at e
  unfold lessV
  split
  ·
   split
   ·
    split
    ·
     rw [decide_eq_true_iff]
     have := e ‹_› ‹_› ‹_›
     omega
    ·
     rw [decide_eq_true_iff]; omega
   ·
    rw [decide_eq_true_iff]; omega
  ·
   rw [decide_eq_true_iff]; omega
theorem plus_r (v : Vc) (k : Nat) : (plusV v k).r = v.r := rfl
theorem ahead_le {x y z : Rp} (h : aheadB x y = true) (k : ¬ aheadB z y = true) : aheadB x z = true := by
 rw [ahead_iff] at h k ⊢
 omega
theorem ahead_as {x y : Rp} (h : aheadB x y = true) : ¬ aheadB y x = true := by
 rw [ahead_iff] at h ⊢
 omega
theorem ahead_tr {x y z : Rp} (h : aheadB x y = true) (k : aheadB y z = true) : aheadB x z = true := ahead_le h (ahead_as k)
theorem ahead_r {x y : Rp} (h : aheadB x y = true) : x.v.r ≤ y.v.r := by
 rw [ahead_iff] at h
 simp only [plus_r] at h
 omega
theorem ahead_r' {x y : Rp} (h : ¬ aheadB y x = true) : x.v.r ≤ y.v.r := by
 rw [ahead_iff] at h
 simp only [plus_r] at h
 omega
structure FixR (sf : Nat) (rl : List Int) (l l' : List Rp) : Prop where
 len : l'.length = l.length
 four : ∀ (k : Nat) (x y : Rp), rl[k]? = some 4 → l[k]? = some x → l'[k]? = some y → y.on = x.on ∧ y.hd = false ∧ y.i = x.i
 other : ∀ (k : Nat) (r : Int), rl[k]? = some r → r ≠ 4 → l'[k]? = l[k]?
section
variable {self : Nat} {l l' : List Rp}
theorem best_at {k : Nat} {x : Rp} (h : l[k]? = some x) : bestU self l (k + 1) = if (wayB self x && (match bestU self l k with | none => true | some y => aheadB x y.2)) = true then some (k, x) else bestU self l k := by
 show (match l[k]? with | none => bestU self l k | some x => if wayB self x && (match bestU self l k with | none => true | some y => aheadB x y.2) then some (k, x) else bestU self l k) = _
 rw [h]
theorem best_end {k : Nat} (h : l[k]? = none) : bestU self l (k + 1) = bestU self l k := by
 show (match l[k]? with | none => bestU self l k | some x => if wayB self x && (match bestU self l k with | none => true | some y => aheadB x y.2) then some (k, x) else bestU self l k) = _
 rw [h]
theorem best_none : ∀ {k : Nat}, bestU self l k = none → ∀ (j : Nat) (z : Rp), j < k → l[j]? = some z → wayB self z = false
 | 0, _, j, z, hj, _ => absurd hj (Nat.not_lt_zero _)
 | k + 1, h, j, z, hj, hz => by
  cases c : l[k]? with
  | none =>
   rw [best_end c] at h
   by_cases e : j = k
   ·
    subst e; rw [c] at hz; cases hz
   ·
    exact best_none h j z (by omega) hz
  | some x =>
   rw [best_at c] at h
   by_cases q : (wayB self x && (match bestU self l k with | none => true | some y => aheadB x y.2)) = true
   ·
    rw [if_pos q] at h; cases h
   ·
    rw [if_neg q] at h
    by_cases e : j = k
    ·
     subst e
     rw [c] at hz
     injection hz with hz
     subst hz
     rw [h] at q
     simpa using q
    ·
     exact best_none h j z (by omega) hz
def IsBest (self : Nat) (l : List Rp) (k i : Nat) (y : Rp) : Prop := i < k ∧ l[i]? = some y ∧ wayB self y = true ∧ (∀ (j : Nat) (z : Rp), j < i → l[j]? = some z → wayB self z = true → aheadB y z = true) ∧ (∀ (j : Nat) (z : Rp), i < j → j < k → l[j]? = some z → wayB self z = true → ¬ aheadB z y = true)
theorem best_is : ∀ {k i : Nat} {y : Rp}, bestU self l k = some (i, y) → IsBest self l k i y
 | 0, _, _, h => by cases h
 | k + 1, i, y, h => by
  cases c : l[k]? with
  | none =>
   rw [best_end c] at h
   obtain ⟨h1, h2, h3, h4, h5⟩ := best_is h
   refine ⟨by omega, h2, h3, h4, fun j z hj hk hz hw => ?_⟩
   by_cases e : j = k
   ·
    subst e; rw [c] at hz; cases hz
   ·
    exact h5 j z hj (by omega) hz hw
  | some x =>
   rw [best_at c] at h
   by_cases q : (wayB self x && (match bestU self l k with | none => true | some y => aheadB x y.2)) = true
   ·
    rw [if_pos q] at h
    injection h with h
    injection h with e1 e2
    subst e1 e2
    rw [Bool.and_eq_true] at q
    obtain ⟨q1, q2⟩ := q
    refine ⟨Nat.lt_succ_self _, c, q1, fun j z hj hz hw => ?_, fun j z hj hk => by omega⟩
    cases c2 : bestU self l k with
    | none => have := best_none c2 j z hj hz; rw [hw] at this; cases this
    | some y2 =>
     obtain ⟨i2, y2⟩ := y2
     rw [c2] at q2
     have q2 : aheadB x y2 = true := q2
     obtain ⟨g1, g2, g3, g4, g5⟩ := best_is c2
     rcases Nat.lt_trichotomy j i2 with a | a | a
     ·
      exact ahead_tr q2 (g4 j z a hz hw)
     ·
      subst a
      rw [g2] at hz
      injection hz with hz
      subst hz
      exact q2
     ·
      exact ahead_le q2 (g5 j z a hj hz hw)
   ·
    rw [if_neg q] at h
    obtain ⟨h1, h2, h3, h4, h5⟩ := best_is h
    refine ⟨by omega, h2, h3, h4, fun j z hj hk hz hw => ?_⟩
    by_cases e : j = k
    ·
     subst e
     rw [c] at hz
     injection hz with hz
     subst hz
     rw [h, hw] at q
     simpa using q
    ·
     exact h5 j z hj (by omega) hz hw
theorem best_of : ∀ {k i : Nat} {y : Rp}, IsBest self l k i y → bestU self l k = some (i, y)
 | 0, _, _, h => absurd h.1 (Nat.not_lt_zero _)
 | k + 1, i, y, ⟨h1, h2, h3, h4, h5⟩ => by
  by_cases e : i = k
  ·
   subst e
   rw [best_at h2, if_pos]
   rw [Bool.and_eq_true]
   refine ⟨h3, ?_⟩
   cases c2 : bestU self l i with
   | none => rfl
   | some y2 =>
    obtain ⟨i2, y2⟩ := y2
    obtain ⟨g1, g2, g3, -, -⟩ := best_is c2
    exact h4 i2 y2 g1 g2 g3
  ·
   have ih : bestU self l k = some (i, y) := best_of ⟨by omega, h2, h3, h4, fun j z hj hk => h5 j z hj (by omega)⟩
   cases c : l[k]? with
   | none => rw [best_end c, ih]
   | some x =>
    rw [best_at c, if_neg, ih]
    rw [ih]
    intro q
    rw [Bool.and_eq_true] at q
    exact h5 k x (by omega) (Nat.lt_succ_self _) c q.1 q.2
theorem FixR.way {rl : List Int} (h : FixR self rl l l') (hl : rl.length = l.length) {k : Nat} {z : Rp} (hz : l'[k]? = some z) (hw : wayB self z = true) : l[k]? = some z := by
 have hk : k < l.length := by rw [← h.len]; exact (List.getElem?_eq_some_iff.1 hz).1
 obtain ⟨r, hr⟩ : ∃ r, rl[k]? = some r := ⟨_, List.getElem?_eq_getElem (by omega)⟩
 by_cases e : r = 4
 ·
  subst e
  have q := (h.four k _ z hr (List.getElem?_eq_getElem hk) hz).2.1
  unfold wayB at hw
  rw [q] at hw
  simp at hw
 ·
  rw [← h.other k r hr e]; exact hz
theorem best_fix {R C : Nat} {P : Int} {n : Nat} (hn : l.length = n) (hR : R = rootN self (bestU self l n)) (hC : C = costN self (bestU self l n)) (hP : P = portN self (bestU self l n)) (h : FixR self (rolesE self R C P l n) l l') (hl : (rolesE self R C P l n).length = l.length) :
 rootN self (bestU self l' n) = R ∧ costN self (bestU self l' n) = C ∧ portN self (bestU self l' n) = P := by
 cases c : bestU self l n with
 | none =>
  rw [c] at hR hC hP
  cases c2 : bestU self l' n with
  | none => exact ⟨hR.symm, hC.symm, hP.symm⟩
  | some y =>
   obtain ⟨i, y⟩ := y
   obtain ⟨h1, h2, h3, -, -⟩ := best_is c2
   have := best_none c i y h1 (h.way hl h2 h3)
   rw [h3] at this
   cases this
 | some y =>
  obtain ⟨i, y⟩ := y
  rw [c] at hR hC hP
  obtain ⟨h1, h2, h3, h4, h5⟩ := best_is c
  by_cases q : y.v.r < self
  ·
   have hP' : P = (i : Int) + 1 := by rw [hP]; show (if y.v.r < self then (i : Int) + 1 else 0) = _; rw [if_pos q]
   have hr : (rolesE self R C P l n)[i]? = some 3 := by
    unfold rolesE
    rw [if_pos (by omega), show (P - 1).toNat = i by omega]
    refine List.getElem?_set_self ?_
    show i < (rolesK self R C l n).length
    unfold rolesK
    rw [tk_len _ (by omega)]
    omega
   have hy : l'[i]? = some y := by rw [h.other i 3 hr (by decide)]; exact h2
   have e : bestU self l' n = some (i, y) := best_of ⟨h1, hy, h3, fun j z hj hz hw => h4 j z hj (h.way hl hz hw) hw, fun j z hj hk hz hw => h5 j z hj hk (h.way hl hz hw) hw⟩
   rw [e]
   exact ⟨hR.symm, hC.symm, hP.symm⟩
  ·
   have hR' : R = self := by rw [hR]; show (if y.v.r < self then _ else _) = _; rw [if_neg q]
   have hC' : C = 0 := by rw [hC]; show (if y.v.r < self then _ else _) = _; rw [if_neg q]
   have hP' : P = 0 := by rw [hP]; show (if y.v.r < self then _ else _) = _; rw [if_neg q]
   rw [hR', hC', hP']
   cases c2 : bestU self l' n with
   | none => exact ⟨rfl, rfl, rfl⟩
   | some z =>
    obtain ⟨j, z⟩ := z
    obtain ⟨g1, g2, g3, -, -⟩ := best_is c2
    have gz := h.way hl g2 g3
    have hle : y.v.r ≤ z.v.r := by
     rcases Nat.lt_trichotomy j i with a | a | a
     ·
      exact ahead_r (h4 j z a gz g3)
     ·
      subst a
      rw [h2] at gz
      injection gz with gz
      rw [gz]
      exact Nat.le_refl _
     ·
      exact ahead_r' (h5 j z a g1 gz g3)
    have q2 : ¬ z.v.r < self := by omega
    refine ⟨?_, ?_, ?_⟩
    ·
     show (if z.v.r < self then _ else _) = _; rw [if_neg q2]
    ·
     show (if z.v.r < self then _ else _) = _; rw [if_neg q2]
    ·
     show (if z.v.r < self then _ else _) = _; rw [if_neg q2]
theorem roles_fix {R C : Nat} {P : Int} {n : Nat} (hn : l.length = n) (h : FixR self (rolesE self R C P l n) l l') (hl : (rolesE self R C P l n).length = l.length) : rolesE self R C P l' n = rolesE self R C P l n ∧ tellsK self R C l' n = tellsK self R C l n := by
 have hn' : l'.length = n := h.len.trans hn
 have hx : ∀ k (hk : k < n), ∃ x y r, l[k]? = some x ∧ l'[k]? = some y ∧ (rolesE self R C P l n)[k]? = some r := fun k hk => ⟨_, _, _, List.getElem?_eq_getElem (by omega), List.getElem?_eq_getElem (by omega), List.getElem?_eq_getElem (by omega)⟩
 have hK : ∀ k x, l[k]? = some x → k < n → (rolesK self R C l n)[k]? = some (roleN self (tellsV self R C x) x) := fun k x hx hk => by
  unfold rolesK
  rw [List.getElem?_map, List.getElem?_take, if_pos hk, hx]
  rfl
 have hK' : ∀ k x, l'[k]? = some x → k < n → (rolesK self R C l' n)[k]? = some (roleN self (tellsV self R C x) x) := fun k x hx hk => by
  unfold rolesK
  rw [List.getElem?_map, List.getElem?_take, if_pos hk, hx]
  rfl
 have hlK : (rolesK self R C l n).length = n := tk_len _ (by omega)
 have hlK' : (rolesK self R C l' n).length = n := tk_len _ (by omega)
 have key : ∀ k, k < n → (0 < P → k ≠ (P - 1).toNat) → (rolesK self R C l' n)[k]? = (rolesK self R C l n)[k]? := fun k hk hP => by
  obtain ⟨x, y, r, e1, e2, e3⟩ := hx k hk
  rw [hK k x e1 hk, hK' k y e2 hk]
  have e4 : (rolesE self R C P l n)[k]? = some (roleN self (tellsV self R C x) x) := by
   unfold rolesE
   split
   ·
    rename_i q
    rw [List.getElem?_set_ne (fun e => hP q e.symm)]
    exact hK k x e1 hk
   ·
    exact hK k x e1 hk
  by_cases c : r = 4
  ·
   subst c
   obtain ⟨f1, f2, f3⟩ := h.four k x y e3 e1 e2
   rw [e3] at e4
   injection e4 with e4
   rw [← e4]
   congr 1
   unfold roleN at e4 ⊢
   rw [f1, f2]
   cases q : x.on with
   | true => rfl
   | false => rw [q] at e4; simp at e4
  ·
   rw [h.other k r e3 c, e1] at e2
   injection e2 with e2
   rw [e2]
 refine ⟨List.ext_getElem? fun k => ?_, List.ext_getElem? fun k => ?_⟩
 ·
  by_cases hk : k < n
  ·
   unfold rolesE
   split
   ·
    rename_i q
    by_cases e : (P - 1).toNat = k
    ·
     rw [e, List.getElem?_set_self (by omega), List.getElem?_set_self (by omega)]
    ·
     rw [List.getElem?_set_ne e, List.getElem?_set_ne e]
     exact key k hk (fun _ e2 => e e2.symm)
   ·
    rename_i q
    exact key k hk (fun q2 => absurd q2 q)
  ·
   have a1 : (rolesE self R C P l n).length ≤ k := by omega
   have a2 : (rolesE self R C P l' n).length ≤ k := by
    unfold rolesE
    split
    ·
     rw [List.length_set]; omega
    ·
     omega
   rw [List.getElem?_eq_none a1, List.getElem?_eq_none a2]
 ·
  unfold tellsK
  rw [List.getElem?_map, List.getElem?_map, List.getElem?_take, List.getElem?_take]
  by_cases hk : k < n
  ·
   rw [if_pos hk, if_pos hk]
   obtain ⟨x, y, r, e1, e2, e3⟩ := hx k hk
   by_cases c : r = 4
   ·
    subst c
    obtain ⟨-, -, f3⟩ := h.four k x y e3 e1 e2
    rw [e1, e2]
    show some (tellsV self R C y) = some (tellsV self R C x)
    unfold tellsV
    rw [f3]
   ·
    rw [h.other k r e3 c]
  ·
   rw [if_neg hk, if_neg hk]
end
end
section
open Go.RowKit
theorem rp_get {l : List Po} {k : Nat} {x : Po} (hx : l[k]? = some x) : ∀ n, n ≤ l.length → k < n → (rpTo l n)[k]? = some (rpN x k)
 | 0, _, h => absurd h (Nat.not_lt_zero _)
 | n + 1, hn, h => by
  obtain ⟨z, hz⟩ : ∃ z, l[n]? = some z := ⟨_, List.getElem?_eq_getElem (by omega)⟩
  have hl : (rpTo l n).length = n := rpTo_len n (by omega)
  rw [rpTo_step hz]
  by_cases e : k = n
  ·
   subst e
   rw [List.getElem?_append_right (by omega), hl, Nat.sub_self]
   rw [hz] at hx
   injection hx with hx
   rw [hx]
   rfl
  ·
   rw [List.getElem?_append_left (by omega)]
   exact rp_get hx n (by omega) (by omega)
structure PreP (x : Po) : Prop where
 ok : okP x
 off : onP x = false → x.p11 = 0
 root : x.p10 = 3 → x.p11 = 2
 des : x.p10 = 4 → onP x = true
def PreL (l : List Po) : Prop := ∀ (k : Nat) (x : Po), l[k]? = some x → PreP x
structure RoI (t : TS) : Prop where
 pre : PreL t.s.po
 role : ∀ (k : Nat) (x : Po), t.s.po[k]? = some x → x.p10 = (rolesOf t).getD k 0
 shut : ∀ (k : Nat) (x : Po), t.s.po[k]? = some x → x.p10 ≠ 3 → x.p10 ≠ 4 → x.p11 = 0
 tell : ∀ (k : Nat) (x : Po), t.s.po[k]? = some x → x.p10 = 4 → vecN x = (tellsOf t).getD k ⟨0, 0, 0, 0⟩ ∧ x.p12 = 1
structure simP (x y : Po) : Prop where
 on : onP y = onP x
 role : y.p10 = x.p10
 info : y.p12 = x.p12
 vec : vecN y = vecN x
 cost : y.p3 = x.p3
 prio : y.p4 = x.p4
 far : y.p11 = x.p11 ∨ x.p10 = 4
 ok : okP x → okP y
theorem simP.refl (x : Po) : simP x x := ⟨rfl, rfl, rfl, rfl, rfl, rfl, .inl rfl, id⟩
theorem simP.trans {x y z : Po} (h : simP x y) (k : simP y z) : simP x z :=
 ⟨k.on.trans h.on, k.role.trans h.role, k.info.trans h.info, k.vec.trans h.vec, k.cost.trans h.cost, k.prio.trans h.prio, by
  rcases k.far with a | a
  ·
   rcases h.far with b | b
   ·
    exact .inl (a.trans b)
   ·
    exact .inr b
  ·
   exact .inr (h.role ▸ a), fun q => k.ok (h.ok q)⟩
def simL (l l' : List Po) : Prop := l'.length = l.length ∧ ∀ (k : Nat) (x : Po), l[k]? = some x → ∃ y, l'[k]? = some y ∧ simP x y
theorem simL.refl (l : List Po) : simL l l := ⟨rfl, fun k x hx => ⟨x, hx, simP.refl x⟩⟩
theorem simL.trans {a b c : List Po} (h : simL a b) (k : simL b c) : simL a c := ⟨k.1.trans h.1, fun j x hx => by
 obtain ⟨y, hy, p⟩ := h.2 j x hx
 obtain ⟨z, hz, q⟩ := k.2 j y hy
 exact ⟨z, hz, p.trans q⟩⟩
theorem simL.of_same {l l' : List Po} (h : sameBut l l') : simL l l' := ⟨h.1.symm, fun k x hx => by
 obtain ⟨y, hy, j, rfl⟩ := h.2 k x hx
 exact ⟨_, hy, ⟨rfl, rfl, rfl, rfl, rfl, rfl, .inl rfl, okP_ch⟩⟩⟩
theorem simL.of_set {l : List Po} {i : Nat} {x y : Po} (hx : l[i]? = some x) (h : simP x y) : simL l (l.set i y) := ⟨List.length_set, fun k z hz => by
 by_cases e : i = k
 ·
  subst e
  rw [hx] at hz
  injection hz with hz
  subst hz
  exact ⟨y, List.getElem?_set_self (List.getElem?_eq_some_iff.1 hx).1, h⟩
 ·
  exact ⟨z, by rw [List.getElem?_set_ne e]; exact hz, simP.refl z⟩⟩
theorem simL.of_map {f : Nat → Po → Po} {t : TS} (hf : ∀ k x, simP x (f k x)) : simL t.s.po (mapTo f t t.s.po.length).s.po := ⟨(mapTo_is f t _).1, fun k x hx => by
 have q := mapTo_get f t k t.s.po.length
 rw [if_pos (List.getElem?_eq_some_iff.1 hx).1, hx] at q
 exact ⟨_, q, hf k x⟩⟩
theorem simL.back {l l' : List Po} (h : simL l l') {k : Nat} {y : Po} (hy : l'[k]? = some y) : ∃ x, l[k]? = some x ∧ simP x y := by
 have hk : k < l.length := by rw [← h.1]; exact (List.getElem?_eq_some_iff.1 hy).1
 obtain ⟨y2, hy2, p⟩ := h.2 k _ (List.getElem?_eq_getElem hk)
 rw [hy] at hy2
 injection hy2 with hy2
 rw [hy2]
 exact ⟨_, List.getElem?_eq_getElem hk, p⟩
theorem rpN_sim {x y : Po} (h : simP x y) (k : Nat) : rpN y k = rpN x k := by
 unfold rpN idP
 rw [h.on, h.info, h.vec, h.cost, h.prio]
theorem rps_sim {l l' : List Po} (h : simL l l') : rpTo l' l'.length = rpTo l l.length := by
 refine List.ext_getElem? fun k => ?_
 by_cases hk : k < l.length
 ·
  obtain ⟨y, hy, p⟩ := h.2 k _ (List.getElem?_eq_getElem hk)
  rw [rp_get hy _ (Nat.le_refl _) (by rw [h.1]; exact hk), rp_get (List.getElem?_eq_getElem hk) _ (Nat.le_refl _) hk, rpN_sim p]
 ·
  rw [List.getElem?_eq_none (by rw [rpTo_len _ (Nat.le_refl _), h.1]; omega), List.getElem?_eq_none (by rw [rpTo_len _ (Nat.le_refl _)]; omega)]
theorem roles_sim {t t' : TS} (hc : t'.s.cf.p0 = t.s.cf.p0) (h : simL t.s.po t'.s.po) : rolesOf t' = rolesOf t ∧ tellsOf t' = tellsOf t := by
 have e1 : selfN t' = selfN t := by unfold selfN; rw [hc]
 have e2 : rpsOf t' = rpsOf t := rps_sim h
 have e3 : bestOf t' = bestOf t := by unfold bestOf; rw [e1, e2, h.1]
 unfold rolesOf tellsOf
 rw [e1, e2, e3, h.1]
 exact ⟨rfl, rfl⟩
theorem PreL.sim {l l' : List Po} (hp : PreL l) (h : simL l l') : PreL l' := fun k y hy => by
 obtain ⟨x, hx, p⟩ := h.back hy
 have q := hp k x hx
 refine ⟨p.ok q.ok, fun ho => ?_, fun hr => ?_, fun hr => ?_⟩
 ·
  rcases p.far with a | a
  ·
   rw [a]; exact q.off (p.on ▸ ho)
  ·
   have := q.des a
   rw [← p.on, ho] at this
   cases this
 ·
  rcases p.far with a | a
  ·
   rw [a]; exact q.root (p.role ▸ hr)
  ·
   rw [p.role, a] at hr; exact absurd hr (by decide)
 ·
  rw [p.on]; exact q.des (p.role ▸ hr)
theorem RoI.sim {t t' : TS} (h : RoI t) (hc : t'.s.cf.p0 = t.s.cf.p0) (hs : simL t.s.po t'.s.po) : RoI t' := by
 obtain ⟨e1, e2⟩ := roles_sim hc hs
 refine ⟨h.pre.sim hs, fun k y hy => ?_, fun k y hy h3 h4 => ?_, fun k y hy h4 => ?_⟩
 ·
  obtain ⟨x, hx, p⟩ := hs.back hy
  rw [p.role, e1]; exact h.role k x hx
 ·
  obtain ⟨x, hx, p⟩ := hs.back hy
  rcases p.far with a | a
  ·
   rw [a]; exact h.shut k x hx (p.role ▸ h3) (p.role ▸ h4)
  ·
   exact absurd (p.role.trans a) h4
 ·
  obtain ⟨x, hx, p⟩ := hs.back hy
  rw [p.vec, p.info, e2]
  exact h.tell k x hx (p.role ▸ h4)
theorem roles_on {t : TS} {k : Nat} {x : Po} (hx : t.s.po[k]? = some x) (ho : onP x = false) : (rolesOf t).getD k 0 = 0 := by
 have hk : k < t.s.po.length := (List.getElem?_eq_some_iff.1 hx).1
 have hr : (rpsOf t)[k]? = some (rpN x k) := rp_get hx _ (Nat.le_refl _) hk
 have hl : (rpsOf t).length = t.s.po.length := rpTo_len _ (Nat.le_refl _)
 have hK : ∀ R C, (rolesK (selfN t) R C (rpsOf t) t.s.po.length)[k]? = some 0 := fun R C => by
  unfold rolesK
  rw [List.getElem?_map, List.getElem?_take, if_pos hk, hr]
  show some (roleN _ _ (rpN x k)) = some 0
  unfold roleN rpN
  rw [ho]
  rfl
 rw [List.getD_eq_getElem?_getD]
 unfold rolesOf rolesE
 split
 ·
  rename_i q
  by_cases e : (portN (selfN t) (bestOf t) - 1).toNat = k
  ·
   exfalso
   cases c : bestOf t with
   | none => rw [c] at q; exact absurd (show (0 : Int) < 0 from q) (by decide)
   | some y =>
    obtain ⟨i, y⟩ := y
    obtain ⟨h1, h2, h3, -, -⟩ := best_is c
    rw [c] at q e
    have q : 0 < (if y.v.r < selfN t then (i : Int) + 1 else 0) := q
    have e : ((if y.v.r < selfN t then (i : Int) + 1 else 0) - 1).toNat = k := e
    by_cases g : y.v.r < selfN t
    ·
     rw [if_pos g] at e
     have e : i = k := by omega
     subst e
     rw [hr] at h2
     injection h2 with h2
     rw [← h2] at h3
     unfold wayB rpN at h3
     rw [ho] at h3
     simp at h3
    ·
     rw [if_neg g] at q
     exact absurd q (by decide)
  ·
   rw [List.getElem?_set_ne e, hK]; rfl
 ·
  rw [hK]; rfl
theorem tells_ok {t : TS} (hid : 0 ≤ t.s.cf.p0 ∧ t.s.cf.p0 < 18446744073709551616) (hp : PreL t.s.po) {k : Nat} (hk : k < t.s.po.length) : ((tellsOf t).getD k ⟨0, 0, 0, 0⟩).ok := by
 have hx : t.s.po[k]? = some (t.s.po[k]) := List.getElem?_eq_getElem hk
 have hr := rp_get hx _ (Nat.le_refl _) hk
 have hs : selfN t < 18446744073709551616 := by unfold selfN; omega
 rw [List.getD_eq_getElem?_getD]
 have e : (tellsOf t)[k]? = some (tellsV (selfN t) (rootN (selfN t) (bestOf t)) (costN (selfN t) (bestOf t)) (rpN (t.s.po[k]) k)) := by
  unfold tellsOf tellsK
  rw [List.getElem?_map, List.getElem?_take, if_pos hk, show (rpsOf t)[k]? = _ from hr]
  rfl
 rw [e]
 show (tellsV _ _ _ _).ok
 have hi := (rpN_ok (hp k _ hx).ok k).2.2
 have hb : rootN (selfN t) (bestOf t) < 18446744073709551616 ∧ costN (selfN t) (bestOf t) < 4294967296 := by
  cases c : bestOf t with
  | none => exact ⟨hs, by show 0 < _; decide⟩
  | some y =>
   obtain ⟨i, y⟩ := y
   obtain ⟨h1, h2, h3, -, -⟩ := best_is c
   obtain ⟨x, hx2⟩ : ∃ x, t.s.po[i]? = some x := ⟨_, List.getElem?_eq_getElem h1⟩
   have q := rp_get hx2 _ (Nat.le_refl _) h1
   rw [show (rpTo t.s.po t.s.po.length)[i]? = some y from h2] at q
   injection q with q
   have o : y.ok := q ▸ rpN_ok (hp i x hx2).ok i
   have o2 := plusV_ok o.1 y.c
   constructor
   ·
    show (if y.v.r < selfN t then y.v.r else selfN t) < _
    split
    ·
     exact o.1.1
    ·
     exact hs
   ·
    show (if y.v.r < selfN t then (plusV y.v y.c).c else 0) < _
    split
    ·
     exact o2.2.1
    ·
     decide
 exact ⟨hb.1, hb.2, hs, hi⟩
end
section
open Go.RowKit
theorem as_same {x : Po} (h : okP x) {r : Int} (hr : r ≠ 4) (v : Vc) (d : Int) (k : Nat) : rpN (assumeP x (vecN x) r v d) k = rpN x k := by
 unfold assumeP
 split
 ·
  rfl
 ·
  split
  ·
   split <;> rfl
  ·
   first | rfl | (rw [if_neg hr]; rfl)
theorem as_four (x : Po) (v : Vc) (d : Int) : assumeP x (vecN x) 4 v d = desP x (vecN x) v d := by
 unfold assumeP
 rw [if_neg (by decide), if_neg (by decide), if_pos rfl]
theorem des_is (x : Po) (v : Vc) (d : Int) : vecN (desP x (vecN x) v d) = v ∧ (desP x (vecN x) v d).p12 = 1 := by
 cases c : desB x (vecN x) v with
 | true =>
  refine ⟨?_, ?_⟩
  ·
   have e : vecN (desP x (vecN x) v d) = desV x (vecN x) v := rfl
   rw [e]
   unfold desV
   rw [c]
   rfl
  ·
   show (bif desB x (vecN x) v then (1 : Int) else x.p12) = 1
   rw [c]; rfl
 | false =>
  have c2 := c
  unfold desB at c2
  simp at c2
  obtain ⟨-, h12, he⟩ := c2
  refine ⟨?_, ?_⟩
  ·
   have e : vecN (desP x (vecN x) v d) = desV x (vecN x) v := rfl
   rw [e]
   unfold desV
   rw [c]
   show vecN x = v
   simp [eqV] at he
   obtain ⟨⟨⟨e1, e2⟩, e3⟩, e4⟩ := he
   cases v
   cases q : vecN x
   rw [q] at e1 e2 e3 e4
   simp_all
  ·
   show (bif desB x (vecN x) v then (1 : Int) else x.p12) = 1
   rw [c]; exact h12
theorem roles_off {t : TS} {k : Nat} {x : Po} (hx : t.s.po[k]? = some x) (ho : onP x = true) : (rolesOf t).getD k 0 ≠ 0 := by
 have hk : k < t.s.po.length := (List.getElem?_eq_some_iff.1 hx).1
 have hr : (rpsOf t)[k]? = some (rpN x k) := rp_get hx _ (Nat.le_refl _) hk
 have hl : (rpsOf t).length = t.s.po.length := rpTo_len _ (Nat.le_refl _)
 have hK : ∀ R C, ∃ r, r ≠ 0 ∧ (rolesK (selfN t) R C (rpsOf t) t.s.po.length)[k]? = some r := fun R C => by
  refine ⟨roleN (selfN t) (tellsV (selfN t) R C (rpN x k)) (rpN x k), ?_, ?_⟩
  ·
   unfold roleN
   rw [show (rpN x k).on = true from ho]
   rw [if_pos rfl]
   split
   ·
    split <;> decide
   ·
    decide
  ·
   unfold rolesK
   rw [List.getElem?_map, List.getElem?_take, if_pos hk, hr]
   rfl
 rw [List.getD_eq_getElem?_getD]
 unfold rolesOf rolesE
 split
 ·
  by_cases e : (portN (selfN t) (bestOf t) - 1).toNat = k
  ·
   rw [e, List.getElem?_set_self (by unfold rolesK; rw [tk_len _ (by omega)]; exact hk)]
   decide
  ·
   obtain ⟨r, h0, h1⟩ := hK (rootN (selfN t) (bestOf t)) (costN (selfN t) (bestOf t))
   rw [List.getElem?_set_ne e, h1]
   exact h0
 ·
  obtain ⟨r, h0, h1⟩ := hK (rootN (selfN t) (bestOf t)) (costN (selfN t) (bestOf t))
  rw [h1]
  exact h0
theorem choose_roles {t : TS} (hp : PreL t.s.po) (hid : 0 ≤ t.s.cf.p0 ∧ t.s.cf.p0 < 18446744073709551616) : RoI (chooseM t) := by
 obtain ⟨t1, ht1⟩ : ∃ z, z = mapTo (asF t) t t.s.po.length := ⟨_, rfl⟩
 have hlen : t1.s.po.length = t.s.po.length := by rw [ht1]; exact (mapTo_is _ _ _).1
 have hcf : t1.s.cf = t.s.cf := by rw [ht1]; exact (mapTo_is _ _ _).2.1
 have hat : ∀ k x, t.s.po[k]? = some x → t1.s.po[k]? = some (asF t k x) := fun k x hx => by
  have q := mapTo_get (asF t) t k t.s.po.length
  rw [if_pos (List.getElem?_eq_some_iff.1 hx).1, hx, ← ht1] at q
  exact q
 have hback : ∀ k y, t1.s.po[k]? = some y → ∃ x, t.s.po[k]? = some x ∧ y = asF t k x := fun k y hy => by
  have hk : k < t.s.po.length := by rw [← hlen]; exact (List.getElem?_eq_some_iff.1 hy).1
  have q := hat k _ (List.getElem?_eq_getElem hk)
  rw [hy] at q
  injection q with q
  exact ⟨_, List.getElem?_eq_getElem hk, q⟩
 -- what is chosen of what came of it
 have hfix : FixR (selfN t) (rolesOf t) (rpsOf t) (rpTo t1.s.po t1.s.po.length) := by
  refine ⟨?_, fun k a b hr ha hb => ?_, fun k r hr hn => ?_⟩
  ·
   rw [rpTo_len _ (Nat.le_refl _), hlen]; exact (rpTo_len _ (Nat.le_refl _)).symm
  ·
   have hk : k < t.s.po.length := by
    have := (List.getElem?_eq_some_iff.1 ha).1
    rw [show (rpsOf t).length = t.s.po.length from rpTo_len _ (Nat.le_refl _)] at this
    exact this
   have hx : t.s.po[k]? = some (t.s.po[k]) := List.getElem?_eq_getElem hk
   have e1 := rp_get hx _ (Nat.le_refl _) hk
   have e2 := rp_get (hat k _ hx) _ (Nat.le_refl _) (by rw [hlen]; exact hk)
   rw [show (rpsOf t)[k]? = _ from e1] at ha
   rw [e2] at hb
   injection ha with ha
   injection hb with hb
   have hg : (rolesOf t).getD k 0 = 4 := by rw [List.getD_eq_getElem?_getD, hr]; rfl
   have e3 : asF t k t.s.po[k] = desP t.s.po[k] (vecN t.s.po[k]) ((tellsOf t).getD k ⟨0, 0, 0, 0⟩) t.s.cf.p3 := by
    unfold asF
    rw [hg, as_four]
   rw [e3] at hb
   refine ⟨?_, ?_, ?_⟩
   ·
    rw [← ha, ← hb]; rfl
   ·
    rw [← hb]
    show decide ((desP _ _ _ _).p12 = 2) = false
    rw [(des_is _ _ _).2]
    decide
   ·
    rw [← ha, ← hb]; rfl
  ·
   by_cases hk : k < t.s.po.length
   ·
    have hx : t.s.po[k]? = some (t.s.po[k]) := List.getElem?_eq_getElem hk
    have hg : (rolesOf t).getD k 0 = r := by rw [List.getD_eq_getElem?_getD, hr]; rfl
    rw [rp_get (hat k _ hx) _ (Nat.le_refl _) (by rw [hlen]; exact hk), show (rpsOf t)[k]? = _ from rp_get hx _ (Nat.le_refl _) hk]
    unfold asF
    rw [hg, as_same (hp k _ hx).ok hn]
   ·
    rw [List.getElem?_eq_none (by rw [rpTo_len _ (Nat.le_refl _), hlen]; omega), List.getElem?_eq_none (by rw [show (rpsOf t).length = t.s.po.length from rpTo_len _ (Nat.le_refl _)]; omega)]
 have hl0 : (rpsOf t).length = t.s.po.length := rpTo_len _ (Nat.le_refl _)
 have hb := best_fix (self := selfN t) (l := rpsOf t) (n := t.s.po.length) hl0 (R := rootN (selfN t) (bestOf t)) (C := costN (selfN t) (bestOf t)) (P := portN (selfN t) (bestOf t)) rfl rfl rfl hfix (by rw [hl0]; exact rolesOf_len t)
 have hr := roles_fix (self := selfN t) (l := rpsOf t) (n := t.s.po.length) hl0 (R := rootN (selfN t) (bestOf t)) (C := costN (selfN t) (bestOf t)) (P := portN (selfN t) (bestOf t)) hfix (by rw [hl0]; exact rolesOf_len t)
 have hs1 : selfN t1 = selfN t := by unfold selfN; rw [hcf]
 have hro : rolesOf t1 = rolesOf t := by
  unfold rolesOf bestOf rpsOf
  rw [hs1, hlen] at *
  rw [hb.1, hb.2.1, hb.2.2]
  exact hr.1
 have hte : tellsOf t1 = tellsOf t := by
  unfold tellsOf bestOf rpsOf
  rw [hs1, hlen] at *
  rw [hb.1, hb.2.1]
  exact hr.2
 have main : RoI t1 := by
  refine ⟨fun k y hy => ?_, fun k y hy => ?_, fun k y hy h3 h4 => ?_, fun k y hy h4 => ?_⟩
  ·
   obtain ⟨x, hx, rfl⟩ := hback k y hy
   have q := hp k x hx
   have hk : k < t.s.po.length := (List.getElem?_eq_some_iff.1 hx).1
   obtain ⟨r, hrr⟩ : ∃ r, r = (rolesOf t).getD k 0 := ⟨_, rfl⟩
   obtain ⟨v, hvv⟩ : ∃ v, v = (tellsOf t).getD k ⟨0, 0, 0, 0⟩ := ⟨_, rfl⟩
   have hv : v.ok := by rw [hvv]; exact tells_ok hid hp hk
   have hon : onP (asF t k x) = onP x := by
    unfold asF assumeP
    split
    ·
     rfl
    ·
     split
     ·
      split <;> rfl
     ·
      split <;> rfl
   have h10 : (asF t k x).p10 = r := by rw [hrr]; exact assume_role _ _ _ _ _
   have hoff : onP x = false → r = 0 := fun ho => by rw [hrr]; exact roles_on hx ho
   have has : asF t k x = assumeP x (vecN x) r v t.s.cf.p3 := by rw [hrr, hvv]; rfl
   refine ⟨?_, fun ho => ?_, fun h => ?_, fun h => ?_⟩
   ·
    by_cases c : r = 4
    ·
     rw [has, c, as_four]
     obtain ⟨e1, e2⟩ := des_is x v t.s.cf.p3
     have e0 : vecN (desP x (vecN x) v t.s.cf.p3) = desV x (vecN x) v := rfl
     rw [e0] at e1
     obtain ⟨v1, v2, v3, v4⟩ := hv
     refine ⟨?_, ?_, ?_, ?_, q.ok.k⟩
     ·
      show 0 ≤ ((desV x (vecN x) v).r : Int) ∧ ((desV x (vecN x) v).r : Int) < _; rw [e1]; omega
     ·
      show 0 ≤ ((desV x (vecN x) v).c : Int) ∧ ((desV x (vecN x) v).c : Int) < _; rw [e1]; omega
     ·
      show 0 ≤ ((desV x (vecN x) v).b : Int) ∧ ((desV x (vecN x) v).b : Int) < _; rw [e1]; omega
     ·
      show 0 ≤ ((desV x (vecN x) v).p : Int) ∧ ((desV x (vecN x) v).p : Int) < _; rw [e1]; omega
    ·
     have e : ∀ y : Po, y = roleP x (vecN x) r ∨ (∃ s, y = restP (roleP x (vecN x) r) s) → okP y := fun y hy => by
      obtain ⟨⟨a1, a2⟩, ⟨b1, b2⟩, ⟨c1, c2⟩, ⟨d1, d2⟩, ek⟩ := q.ok
      have key : ∀ z : Po, z.p13 = ((vecN x).r : Int) → z.p14 = ((vecN x).c : Int) → z.p15 = ((vecN x).b : Int) → z.p16 = ((vecN x).p : Int) → z.p3 = x.p3 → okP z := fun z z1 z2 z3 z4 z5 => by
       refine ⟨?_, ?_, ?_, ?_, by rw [z5]; exact ek⟩
       ·
        rw [z1]; show 0 ≤ (x.p13.toNat : Int) ∧ (x.p13.toNat : Int) < _; omega
       ·
        rw [z2]; show 0 ≤ (x.p14.toNat : Int) ∧ (x.p14.toNat : Int) < _; omega
       ·
        rw [z3]; show 0 ≤ (x.p15.toNat : Int) ∧ (x.p15.toNat : Int) < _; omega
       ·
        rw [z4]; show 0 ≤ (x.p16.toNat : Int) ∧ (x.p16.toNat : Int) < _; omega
      rcases hy with rfl | ⟨s, rfl⟩
      ·
       exact key _ rfl rfl rfl rfl rfl
      ·
       exact key _ rfl rfl rfl rfl rfl
     rw [has]
     unfold assumeP
     split
     ·
      exact e _ (.inr ⟨_, rfl⟩)
     ·
      split
      ·
       split
       ·
        exact e _ (.inl rfl)
       ·
        exact e _ (.inr ⟨_, rfl⟩)
      ·
       first | exact e _ (.inl rfl) | (rw [if_neg c]; exact e _ (.inl rfl))
   ·
    rw [hon] at ho
    rw [has, hoff ho]
    exact q.off ho
   ·
    rw [h10] at h
    rw [has, h]
    unfold assumeP
    rw [if_neg (by decide), if_pos rfl]
    split
    ·
     rename_i h3; exact q.root h3
    ·
     rfl
   ·
    rw [h10] at h
    rw [hon]
    cases c : onP x with
    | true => rfl
    | false => have := hoff c; rw [h] at this; exact absurd this (by decide)
  ·
   obtain ⟨x, hx, rfl⟩ := hback k y hy
   rw [hro]
   exact assume_role _ _ _ _ _
  ·
   obtain ⟨x, hx, rfl⟩ := hback k y hy
   have h10 : (asF t k x).p10 = (rolesOf t).getD k 0 := assume_role _ _ _ _ _
   have hb := rolesOf_is t k
   rw [h10] at h3 h4
   by_cases c : (rolesOf t).getD k 0 = 1 ∨ (rolesOf t).getD k 0 = 2
   ·
    unfold asF assumeP
    rw [if_pos c]
    rfl
   ·
    have c0 : (rolesOf t).getD k 0 = 0 := by omega
    have ho : onP x = false := by
     cases co : onP x with
     | false => rfl
     | true => exact absurd c0 (roles_off hx co)
    unfold asF assumeP
    rw [c0, if_neg (by decide), if_neg (by decide), if_neg (by decide)]
    exact (hp k x hx).off ho
  ·
   obtain ⟨x, hx, rfl⟩ := hback k y hy
   have h10 : (asF t k x).p10 = (rolesOf t).getD k 0 := assume_role _ _ _ _ _
   rw [h10] at h4
   have e3 : asF t k x = desP x (vecN x) ((tellsOf t).getD k ⟨0, 0, 0, 0⟩) t.s.cf.p3 := by
    unfold asF
    rw [h4, as_four]
   rw [e3, hte]
   exact des_is _ _ _
 -- what changed topology, and what is told
 have hse : simL t1.s.po (chooseM t).s.po := by
  have a := foldChanged_same t1 (markTo (openF t) t.s.po t.s.po.length) (markTo (openF t) t.s.po t.s.po.length).length
  have b := (foldTell_is (foldT changedM t1 (markTo (openF t) t.s.po t.s.po.length) (markTo (openF t) t.s.po t.s.po.length).length) (markTo (anewF t) t.s.po t.s.po.length) (markTo (anewF t) t.s.po t.s.po.length).length).1
  have e : (chooseM t).s.po = (foldT changedM t1 (markTo (openF t) t.s.po t.s.po.length) (markTo (openF t) t.s.po t.s.po.length).length).s.po := by
   rw [ht1] at b ⊢
   exact congrArg (fun z => z.po) b
  rw [e]
  exact simL.of_same a
 exact main.sim (by rw [(choose_fl t).2, hcf]) hse
end
section
open Go.RowKit
def TS.rest (t : TS) : List Vr × List Sr × List Fr × (Nat → Int) := (t.s.vl, t.s.st, t.s.fd, t.s.c)
theorem mapTo_rest (f : Nat → Po → Po) (t : TS) : ∀ k, (mapTo f t k).rest = t.rest
 | 0 => rfl
 | k + 1 => by
  have a := mapTo_rest f t k
  show (mapStep f (mapTo f t k) k).rest = _
  unfold mapStep
  split
  ·
   exact a
  ·
   exact a
theorem chgTo_rest (h : Int) (i : Nat) (t : TS) : ∀ k, (chgTo h i t k).rest = t.rest
 | 0 => rfl
 | k + 1 => by
  have a := chgTo_rest h i t k
  show (chgStep h i (chgTo h i t k) k).rest = _
  unfold chgStep
  split
  ·
   split
   ·
    exact a
   ·
    split
    ·
     exact a
    ·
     exact a
  ·
   exact a
theorem changedM_rest (t : TS) (i : Nat) : (changedM t i).rest = t.rest := by
 unfold changedM
 cases c : t.s.po[i]? with
 | none => rfl
 | some x =>
  show (if edgeB x = true then t else chgTo (twoH t) i (t.setPo (t.s.po.set i (chP x (twoH t)))) t.s.po.length).rest = _
  split
  ·
   rfl
  ·
   exact chgTo_rest _ _ _ _
theorem foldChanged_rest (t : TS) (idx : List Nat) : ∀ j, (foldT changedM t idx j).rest = t.rest
 | 0 => rfl
 | j + 1 => by
  have a := foldChanged_rest t idx j
  show (match idx[j]? with | some i => changedM (foldT changedM t idx j) i | none => foldT changedM t idx j).rest = _
  split
  ·
   exact (changedM_rest _ _).trans a
  ·
   exact a
theorem fadeM_rest (t : TS) : (fadeM t).rest = t.rest := mapTo_rest _ _ _
theorem chooseM_rest (t : TS) : (chooseM t).rest = t.rest := by
 have c := (foldTell_is (foldT changedM (mapTo (asF t) t t.s.po.length) (markTo (openF t) t.s.po t.s.po.length) (markTo (openF t) t.s.po t.s.po.length).length) (markTo (anewF t) t.s.po t.s.po.length) (markTo (anewF t) t.s.po t.s.po.length).length).1
 have e : (chooseM t).rest = (foldT changedM (mapTo (asF t) t t.s.po.length) (markTo (openF t) t.s.po t.s.po.length) (markTo (openF t) t.s.po t.s.po.length).length).rest := congrArg (fun z : Go.Proofs.YtebnpblincgjlaaDoor.St => (z.vl, z.st, z.fd, z.c)) c
 rw [e, foldChanged_rest, mapTo_rest]
theorem stepMM_rest (t : TS) : (stepMM t).rest = t.rest := (foldChanged_rest _ _ _).trans (mapTo_rest _ _ _)
theorem beatM_rest (t : TS) : (beatM t).rest = t.rest := congrArg (fun z : Go.Proofs.YtebnpblincgjlaaDoor.St => (z.vl, z.st, z.fd, z.c)) (beatTo_is t _).1
theorem tellM_rest (t : TS) (i : Nat) : (tellM t i).rest = t.rest := congrArg (fun z : Go.Proofs.YtebnpblincgjlaaDoor.St => (z.vl, z.st, z.fd, z.c)) (tellM_is t i).1
theorem sendM_rest (t : TS) (i : Nat) (q : Pd) : (sendM t i q).rest = t.rest := by
 unfold sendM
 split
 ·
  rfl
 ·
  rfl
theorem answerM_rest (t : TS) (i : Nat) : (answerM t i).rest = t.rest := by
 unfold answerM
 split
 ·
  split
  ·
   exact (sendM_rest _ _ _).trans (mapTo_rest _ _ _)
  ·
   rfl
 ·
  rfl
theorem takeM_rest (t : TS) (i : Nat) (q : Pd) (v : Vc) : (takeM t i q v).rest = t.rest := by
 unfold takeM
 cases c : t.s.po[i]? with
 | none => rfl
 | some y =>
  show (if hearN y (vecN y) v (IntKind.i64.wrap q.p12) t.s.cf = 1 then (if (hearP y (vecN y) v (IntKind.i64.wrap q.p12) t.s.cf).p10 = 4 then tellM (t.setPo (t.s.po.set i (hearP y (vecN y) v (IntKind.i64.wrap q.p12) t.s.cf))) i else t.setPo (t.s.po.set i (hearP y (vecN y) v (IntKind.i64.wrap q.p12) t.s.cf)))
   else if hearN y (vecN y) v (IntKind.i64.wrap q.p12) t.s.cf = 2 ∨ hearN y (vecN y) v (IntKind.i64.wrap q.p12) t.s.cf = 3 then (if q.p2 = true then answerM (chooseM (t.setPo (t.s.po.set i (hearP y (vecN y) v (IntKind.i64.wrap q.p12) t.s.cf)))) i else chooseM (t.setPo (t.s.po.set i (hearP y (vecN y) v (IntKind.i64.wrap q.p12) t.s.cf))))
   else t.setPo (t.s.po.set i (hearP y (vecN y) v (IntKind.i64.wrap q.p12) t.s.cf))).rest = _
  split
  ·
   split
   ·
    exact tellM_rest _ _
   ·
    rfl
  ·
   split
   ·
    split
    ·
     exact (answerM_rest _ _).trans (chooseM_rest _)
    ·
     exact chooseM_rest _
   ·
    rfl
theorem sprTo_rest (h : Int) (i : Nat) (t : TS) : ∀ k, (sprTo h i t k).rest = t.rest
 | 0 => rfl
 | k + 1 => by
  have a := sprTo_rest h i t k
  show (sprStep h i (sprTo h i t k) k).rest = _
  unfold sprStep
  split
  ·
   split
   ·
    exact a
   ·
    exact a
  ·
   exact a
theorem agreeM_rest (t : TS) (i : Nat) (q : Pd) (v : Vc) : (agreeM t i q v).rest = t.rest := by
 unfold agreeM
 split
 ·
  split
  ·
   split
   ·
    exact changedM_rest _ _
   ·
    rfl
  ·
   rfl
 ·
  rfl
theorem hearM_rest {t : TS} {i : Nat} {x : Po} {u : Vc} (q : Pd) (v : Vc) (h : t.s.po[i]? = some (poU x u)) : (hearM t i q v).rest = t.rest := by
 rw [hearM_some q v h]
 have e : (spreadM (t.setPo (t.s.po.set i (poU (plainP x) u))) i).rest = t.rest := sprTo_rest _ _ _ _
 split
 ·
  split
  ·
   exact e
  ·
   rfl
 ·
  split
  ·
   split
   ·
    exact (agreeM_rest _ _ _ _).trans e
   ·
    exact (takeM_rest _ _ _ _).trans e
  ·
   split
   ·
    exact agreeM_rest _ _ _ _
   ·
    exact takeM_rest _ _ _ _
end
section
open Go.RowKit
theorem fadeM_is (t : TS) : (fadeM t).s.po.length = t.s.po.length ∧ (fadeM t).s.cf = t.s.cf ∧ (fadeM t).fl = t.fl ∧ (fadeM t).told = t.told := mapTo_is _ _ _
theorem chooseM_io (t : TS) : (chooseM t).s.po.length = t.s.po.length ∧ (chooseM t).s.cf = t.s.cf ∧ (chooseM t).fl.length ≤ t.fl.length + t.s.po.length * t.s.po.length ∧ (chooseM t).told.length ≤ t.told.length + t.s.po.length := by
 have a := mapTo_is (asF t) t t.s.po.length
 have b := foldChanged_is (mapTo (asF t) t t.s.po.length) (markTo (openF t) t.s.po t.s.po.length) (markTo (openF t) t.s.po t.s.po.length).length
 have c := foldTell_is (foldT changedM (mapTo (asF t) t t.s.po.length) (markTo (openF t) t.s.po t.s.po.length) (markTo (openF t) t.s.po t.s.po.length).length) (markTo (anewF t) t.s.po t.s.po.length) (markTo (anewF t) t.s.po t.s.po.length).length
 have o := (markTo_lt (p := openF t) (l := t.s.po) t.s.po.length).2
 have n := (markTo_lt (p := anewF t) (l := t.s.po) t.s.po.length).2
 refine ⟨?_, ?_, ?_, ?_⟩
 ·
  exact (congrArg (fun z => z.po.length) c.1).trans (b.1.trans a.1)
 ·
  exact (congrArg (fun z => z.cf) c.1).trans (b.2.1.trans a.2.1)
 ·
  have q1 := b.2.2.1
  rw [a.2.2.1, a.1] at q1
  have q2 : (markTo (openF t) t.s.po t.s.po.length).length * t.s.po.length ≤ t.s.po.length * t.s.po.length := Nat.mul_le_mul_right _ o
  have q3 : (chooseM t).fl = (foldT changedM (mapTo (asF t) t t.s.po.length) (markTo (openF t) t.s.po t.s.po.length) (markTo (openF t) t.s.po t.s.po.length).length).fl := c.2.1
  rw [q3]
  omega
 ·
  have q1 := c.2.2
  rw [b.2.2.2, a.2.2.2] at q1
  exact Nat.le_trans q1 (by omega)
theorem stepMM_is (t : TS) : (stepMM t).s.po.length = t.s.po.length ∧ (stepMM t).s.cf = t.s.cf ∧ (stepMM t).fl.length ≤ t.fl.length + t.s.po.length * t.s.po.length ∧ (stepMM t).told = t.told := by
 have a := mapTo_is (stF t.s.cf.p3) t t.s.po.length
 have b := foldChanged_is (mapTo (stF t.s.cf.p3) t t.s.po.length) (markTo (opF t.s.cf.p3) t.s.po t.s.po.length) (markTo (opF t.s.cf.p3) t.s.po t.s.po.length).length
 have o := (markTo_lt (p := opF t.s.cf.p3) (l := t.s.po) t.s.po.length).2
 refine ⟨b.1.trans a.1, b.2.1.trans a.2.1, ?_, b.2.2.2.trans a.2.2.2⟩
 have q1 := b.2.2.1
 rw [a.2.2.1, a.1] at q1
 have q2 : (markTo (opF t.s.cf.p3) t.s.po t.s.po.length).length * t.s.po.length ≤ t.s.po.length * t.s.po.length := Nat.mul_le_mul_right _ o
 exact Nat.le_trans q1 (by omega)
theorem beatM_is (t : TS) : (beatM t).s = t.s ∧ (beatM t).fl = t.fl ∧ (beatM t).told.length ≤ t.told.length + t.s.po.length := beatTo_is t _
end
end Go.Proofs.YtebnpblincgjlaaDoor
