import Derived.Test.YteeinlbhcdpnnaaDoorG14
import Derived.Test.YteeinlbhcdpnnaaDoorG15
import Derived.Test.YteeinlbhcdpnnaaDoorG22
import Derived.Test.YteeinlbhcdpnnaaDoorG4
import Derived.Test.YteeinlbhcdpnnaaDoorG23
import Derived.Test.YteeinlbhcdpnnaaDoorG24
import Derived.Test.YteeinlbhcdpnnaaDoorG16
set_option linter.unusedSimpArgs false
set_option linter.unusedVariables false
namespace Go.Proofs.YteeinlbhcdpnnaaDoor
section
open Go.RowKit
theorem ahead_iff (x y : Rp) : aheadB x y = true ↔
 (plusV x.v x.c).r < (plusV y.v y.c).r ∨ ((plusV x.v x.c).r = (plusV y.v y.c).r ∧ ((plusV x.v x.c).c < (plusV y.v y.c).c ∨ ((plusV x.v x.c).c = (plusV y.v y.c).c ∧ ((plusV x.v x.c).b < (plusV y.v y.c).b ∨ ((plusV x.v x.c).b = (plusV y.v y.c).b ∧ ((plusV x.v x.c).p < (plusV y.v y.c).p ∨ ((plusV x.v x.c).p = (plusV y.v y.c).p ∧ x.i < y.i))))))) := by
 unfold aheadB
 generalize plusV x.v x.c = a
 generalize plusV y.v y.c = b
 by_cases e : eqV a b = true
 ·
  rw [if_pos e]
  simp [eqV] at e
  obtain ⟨⟨⟨e1, e2⟩, e3⟩, e4⟩ := e
  rw [decide_eq_true_iff]
  omega
 ·
  rw [if_neg e]
  simp [eqV] at e
  unfold lessV
  split
  ·
   split
   ·
    split
    ·
     rw [decide_eq_true_iff]
     have := e ‹_› ‹_› ‹_›
     omega
    ·
     rw [decide_eq_true_iff]; omega
   ·
    rw [decide_eq_true_iff]; omega
  ·
   rw [decide_eq_true_iff]; omega
theorem plus_r (v : Vc) (k : Nat) : (plusV v k).r = v.r := rfl
theorem ahead_le {x y z : Rp} (h : aheadB x y = true) (k : ¬ aheadB z y = true) : aheadB x z = true := by
 rw [ahead_iff] at h k ⊢
 omega
theorem ahead_as {x y : Rp} (h : aheadB x y = true) : ¬ aheadB y x = true := by
 rw [ahead_iff] at h ⊢
 omega
theorem ahead_tr {x y z : Rp} (h : aheadB x y = true) (k : aheadB y z = true) : aheadB x z = true := ahead_le h (ahead_as k)
theorem ahead_r {x y : Rp} (h : aheadB x y = true) : x.v.r ≤ y.v.r := by
 rw [ahead_iff] at h
 simp only [plus_r] at h
 omega
theorem ahead_r' {x y : Rp} (h : ¬ aheadB y x = true) : x.v.r ≤ y.v.r := by
 rw [ahead_iff] at h
 simp only [plus_r] at h
 omega
structure FixR (sf : Nat) (rl : List Int) (l l' : List Rp) : Prop where
 len : l'.length = l.length
 four : ∀ (k : Nat) (x y : Rp), rl[k]? = some 4 → l[k]? = some x → l'[k]? = some y → y.on = x.on ∧ y.hd = false ∧ y.i = x.i
 other : ∀ (k : Nat) (r : Int), rl[k]? = some r → r ≠ 4 → l'[k]? = l[k]?
section
variable {self : Nat} {l l' : List Rp}
theorem best_at {k : Nat} {x : Rp} (h : l[k]? = some x) : bestU self l (k + 1) = if (wayB self x && (match bestU self l k with | none => true | some y => aheadB x y.2)) = true then some (k, x) else bestU self l k := by
 show (match l[k]? with | none => bestU self l k | some x => if wayB self x && (match bestU self l k with | none => true | some y => aheadB x y.2) then some (k, x) else bestU self l k) = _
 rw [h]
theorem best_end {k : Nat} (h : l[k]? = none) : bestU self l (k + 1) = bestU self l k := by
 show (match l[k]? with | none => bestU self l k | some x => if wayB self x && (match bestU self l k with | none => true | some y => aheadB x y.2) then some (k, x) else bestU self l k) = _
 rw [h]
theorem best_none : ∀ {k : Nat}, bestU self l k = none → ∀ (j : Nat) (z : Rp), j < k → l[j]? = some z → wayB self z = false
 | 0, _, j, z, hj, _ => absurd hj (Nat.not_lt_zero _)
 | k + 1, h, j, z, hj, hz => by
  cases c : l[k]? with
  | none =>
   rw [best_end c] at h
   by_cases e : j = k
   ·
    subst e; rw [c] at hz; cases hz
   ·
    exact best_none h j z (by omega) hz
  | some x =>
   rw [best_at c] at h
   by_cases q : (wayB self x && (match bestU self l k with | none => true | some y => aheadB x y.2)) = true
   ·
    rw [if_pos q] at h; cases h
   ·
    rw [if_neg q] at h
    by_cases e : j = k
    ·
     subst e
     rw [c] at hz
     injection hz with hz
     subst hz
     rw [h] at q
     simpa using q
    ·
     exact best_none h j z (by omega) hz
def IsBest (self : Nat) (l : List Rp) (k i : Nat) (y : Rp) : Prop := i < k ∧ l[i]? = some y ∧ wayB self y = true ∧ (∀ (j : Nat) (z : Rp), j < i → l[j]? = some z → wayB self z = true → aheadB y z = true) ∧ (∀ (j : Nat) (z : Rp), i < j → j < k → l[j]? = some z → wayB self z = true → ¬ aheadB z y = true)
theorem best_is : ∀ {k i : Nat} {y : Rp}, bestU self l k = some (i, y) → IsBest self l k i y
 | 0, _, _, h => by cases h
 | k + 1, i, y, h => by
  cases c : l[k]? with
  | none =>
   rw [best_end c] at h
   obtain ⟨h1, h2, h3, h4, h5⟩ := best_is h
   refine ⟨by omega, h2, h3, h4, fun j z hj hk hz hw => ?_⟩
   by_cases e : j = k
   ·
    subst e; rw [c] at hz; cases hz
   ·
    exact h5 j z hj (by omega) hz hw
  | some x =>
   rw [best_at c] at h
   by_cases q : (wayB self x && (match bestU self l k with | none => true | some y => aheadB x y.2)) = true
   ·
    rw [if_pos q] at h
    injection h with h
    injection h with e1 e2
    subst e1 e2
    rw [Bool.and_eq_true] at q
    obtain ⟨q1, q2⟩ := q
    refine ⟨Nat.lt_succ_self _, c, q1, fun j z hj hz hw => ?_, fun j z hj hk => by omega⟩
    cases c2 : bestU self l k with
    | none => have := best_none c2 j z hj hz; rw [hw] at this; cases this
    | some y2 =>
     obtain ⟨i2, y2⟩ := y2
     rw [c2] at q2
     have q2 : aheadB x y2 = true := q2
     obtain ⟨g1, g2, g3, g4, g5⟩ := best_is c2
     rcases Nat.lt_trichotomy j i2 with a | a | a
     ·
      exact ahead_tr q2 (g4 j z a hz hw)
     ·
      subst a
      rw [g2] at hz
      injection hz with hz
      subst hz
      exact q2
     ·
      exact ahead_le q2 (g5 j z a hj hz hw)
   ·
    rw [if_neg q] at h
    obtain ⟨h1, h2, h3, h4, h5⟩ := best_is h
    refine ⟨by omega, h2, h3, h4, fun j z hj hk hz hw => ?_⟩
    by_cases e : j = k
    ·
     subst e
     rw [c] at hz
     injection hz with hz
     subst hz
     rw [h, hw] at q
     simpa using q
    ·
     exact h5 j z hj (by omega) hz hw
theorem best_of : ∀ {k i : Nat} {y : Rp}, IsBest self l k i y → bestU self l k = some (i, y)
 | 0, _, _, h => absurd h.1 (Nat.not_lt_zero _)
 | k + 1, i, y, ⟨h1, h2, h3, h4, h5⟩ => by
  by_cases e : i = k
  ·
   subst e
   rw [best_at h2, if_pos]
   rw [Bool.and_eq_true]
   refine ⟨h3, ?_⟩
   cases c2 : bestU self l i with
   | none => rfl
   | some y2 =>
    obtain ⟨i2, y2⟩ := y2
    obtain ⟨g1, g2, g3, -, -⟩ := best_is c2
    exact h4 i2 y2 g1 g2 g3
  ·
   have ih : bestU self l k = some (i, y) := best_of ⟨by omega, h2, h3, h4, fun j z hj hk => h5 j z hj (by omega)⟩
   cases c : l[k]? with
   | none => rw [best_end c, ih]
   | some x =>
    rw [best_at c, if_neg, ih]
    rw [ih]
    intro q
    rw [Bool.and_eq_true] at q
    exact h5 k x (by omega) (Nat.lt_succ_self _) c q.1 q.2
theorem FixR.way {rl : List Int} (h : FixR self rl l l') (hl : rl.length = l.length) {k : Nat} {z : Rp} (hz : l'[k]? = some z) (hw : wayB self z = true) : l[k]? = some z := by
 have hk : k < l.length := by rw [← h.len]; exact (List.getElem?_eq_some_iff.1 hz).1
 obtain ⟨r, hr⟩ : ∃ r, rl[k]? = some r := ⟨_, List.getElem?_eq_getElem (by omega)⟩
 by_cases e : r = 4
 ·
  subst e
  have q := (h.four k _ z hr (List.getElem?_eq_getElem hk) hz).2.1
  unfold wayB at hw
  rw [q] at hw
  simp at hw
 ·
  rw [← h.other k r hr e]; exact hz
theorem best_fix {R C : Nat} {P : Int} {n : Nat} (hn : l.length = n) (hR : R = rootN self (bestU self l n)) (hC : C = costN self (bestU self l n)) (hP : P = portN self (bestU self l n)) (h : FixR self (rolesE self R C P l n) l l') (hl : (rolesE self R C P l n).length = l.length) :
 rootN self (bestU self l' n) = R ∧ costN self (bestU self l' n) = C ∧ portN self (bestU self l' n) = P := by
 cases c : bestU self l n with
 | none =>
  rw [c] at hR hC hP
  cases c2 : bestU self l' n with
  | none => exact ⟨hR.symm, hC.symm, hP.symm⟩
  | some y =>
   obtain ⟨i, y⟩ := y
   obtain ⟨h1, h2, h3, -, -⟩ := best_is c2
   have := best_none c i y h1 (h.way hl h2 h3)
   rw [h3] at this
   cases this
 | some y =>
  obtain ⟨i, y⟩ := y
  rw [c] at hR hC hP
  obtain ⟨h1, h2, h3, h4, h5⟩ := best_is c
  by_cases q : y.v.r < self
  ·
   have hP' : P = (i : Int) + 1 := by rw [hP]; show (if y.v.r < self then (i : Int) + 1 else 0) = _; rw [if_pos q]
   have hr : (rolesE self R C P l n)[i]? = some 3 := by
    unfold rolesE
    rw [if_pos (by omega), show (P - 1).toNat = i by omega]
    refine List.getElem?_set_self ?_
    show i < (rolesK self R C l n).length
    unfold rolesK
    rw [tk_len _ (by omega)]
    omega
   have hy : l'[i]? = some y := by rw [h.other i 3 hr (by decide)]; exact h2
   have e : bestU self l' n = some (i, y) := best_of ⟨h1, hy, h3, fun j z hj hz hw => h4 j z hj (h.way hl hz hw) hw, fun j z hj hk hz hw => h5 j z hj hk (h.way hl hz hw) hw⟩
   rw [e]
   exact ⟨hR.symm, hC.symm, hP.symm⟩
  ·
   have hR' : R = self := by rw [hR]; show (if y.v.r < self then _ else _) = _; rw [if_neg q]
   have hC' : C = 0 := by rw [hC]; show (if y.v.r < self then _ else _) = _; rw [if_neg q]
   have hP' : P = 0 := by rw [hP]; show (if y.v.r < self then _ else _) = _; rw [if_neg q]
   rw [hR', hC', hP']
   cases c2 : bestU self l' n with
   | none => exact ⟨rfl, rfl, rfl⟩
   | some z =>
    obtain ⟨j, z⟩ := z
    obtain ⟨g1, g2, g3, -, -⟩ := best_is c2
    have gz := h.way hl g2 g3
    have hle : y.v.r ≤ z.v.r := by
     rcases Nat.lt_trichotomy j i with a | a | a
     ·
      exact ahead_r (h4 j z a gz g3)
     ·
      subst a
      rw [h2] at gz
      injection gz with gz
      rw [gz]
      exact Nat.le_refl _
     ·
      exact ahead_r' (h5 j z a g1 gz g3)
    have q2 : ¬ z.v.r < self := by omega
    refine ⟨?_, ?_, ?_⟩
    ·
     show (if z.v.r < self then _ else _) = _; rw [if_neg q2]
    ·
     show (if z.v.r < self then _ else _) = _; rw [if_neg q2]
    ·
     show (if z.v.r < self then _ else _) = _; rw [if_neg q2]
theorem roles_fix {R C : Nat} {P : Int} {n : Nat} (hn : l.length = n) (h : FixR self (rolesE self R C P l n) l l') (hl : (rolesE self R C P l n).length = l.length) : rolesE self R C P l' n = rolesE self R C P l n ∧ tellsK self R C l' n = tellsK self R C l n := by
 have hn' : l'.length = n := h.len.trans hn
 have hx : ∀ k (hk : k < n), ∃ x y r, l[k]? = some x ∧ l'[k]? = some y ∧ (rolesE self R C P l n)[k]? = some r := fun k hk => ⟨_, _, _, List.getElem?_eq_getElem (by omega), List.getElem?_eq_getElem (by omega), List.getElem?_eq_getElem (by omega)⟩
 have hK : ∀ k x, l[k]? = some x → k < n → (rolesK self R C l n)[k]? = some (roleN self (tellsV self R C x) x) := fun k x hx hk => by
  unfold rolesK
  rw [List.getElem?_map, List.getElem?_take, if_pos hk, hx]
  rfl
 have hK' : ∀ k x, l'[k]? = some x → k < n → (rolesK self R C l' n)[k]? = some (roleN self (tellsV self R C x) x) := fun k x hx hk => by
  unfold rolesK
  rw [List.getElem?_map, List.getElem?_take, if_pos hk, hx]
  rfl
 have hlK : (rolesK self R C l n).length = n := tk_len _ (by omega)
 have hlK' : (rolesK self R C l' n).length = n := tk_len _ (by omega)
 have key : ∀ k, k < n → (0 < P → k ≠ (P - 1).toNat) → (rolesK self R C l' n)[k]? = (rolesK self R C l n)[k]? := fun k hk hP => by
  obtain ⟨x, y, r, e1, e2, e3⟩ := hx k hk
  rw [hK k x e1 hk, hK' k y e2 hk]
  have e4 : (rolesE self R C P l n)[k]? = some (roleN self (tellsV self R C x) x) := by
   unfold rolesE
   split
   ·
    rename_i q
    rw [List.getElem?_set_ne (fun e => hP q e.symm)]
    exact hK k x e1 hk
   ·
    exact hK k x e1 hk
  by_cases c : r = 4
  ·
   subst c
   obtain ⟨f1, f2, f3⟩ := h.four k x y e3 e1 e2
   rw [e3] at e4
   injection e4 with e4
   rw [← e4]
   congr 1
   unfold roleN at e4 ⊢
   rw [f1, f2]
   cases q : x.on with
   | true => rfl
   | false => rw [q] at e4; simp at e4
  ·
   rw [h.other k r e3 c, e1] at e2
   injection e2 with e2
   rw [e2]
 refine ⟨List.ext_getElem? fun k => ?_, List.ext_getElem? fun k => ?_⟩
 ·
  by_cases hk : k < n
  ·
   unfold rolesE
   split
   ·
    rename_i q
    by_cases e : (P - 1).toNat = k
    ·
     rw [e, List.getElem?_set_self (by omega), List.getElem?_set_self (by omega)]
    ·
     rw [List.getElem?_set_ne e, List.getElem?_set_ne e]
     exact key k hk (fun _ e2 => e e2.symm)
   ·
    rename_i q
    exact key k hk (fun q2 => absurd q2 q)
  ·
   have a1 : (rolesE self R C P l n).length ≤ k := by omega
   have a2 : (rolesE self R C P l' n).length ≤ k := by
    unfold rolesE
    split
    ·
     rw [List.length_set]; omega
    ·
     omega
   rw [List.getElem?_eq_none a1, List.getElem?_eq_none a2]
 ·
  unfold tellsK
  rw [List.getElem?_map, List.getElem?_map, List.getElem?_take, List.getElem?_take]
  by_cases hk : k < n
  ·
   rw [if_pos hk, if_pos hk]
   obtain ⟨x, y, r, e1, e2, e3⟩ := hx k hk
   by_cases c : r = 4
   ·
    subst c
    obtain ⟨-, -, f3⟩ := h.four k x y e3 e1 e2
    rw [e1, e2]
    show some (tellsV self R C y) = some (tellsV self R C x)
    unfold tellsV
    rw [f3]
   ·
    rw [h.other k r e3 c]
  ·
   rw [if_neg hk, if_neg hk]
end
end
section
open Go.RowKit
theorem rp_get {l : List Po} {k : Nat} {x : Po} (hx : l[k]? = some x) : ∀ n, n ≤ l.length → k < n → (rpTo l n)[k]? = some (rpN x k)
 | 0, _, h => absurd h (Nat.not_lt_zero _)
 | n + 1, hn, h => by
  obtain ⟨z, hz⟩ : ∃ z, l[n]? = some z := ⟨_, List.getElem?_eq_getElem (by omega)⟩
  have hl : (rpTo l n).length = n := rpTo_len n (by omega)
  rw [rpTo_step hz]
  by_cases e : k = n
  ·
   subst e
   rw [List.getElem?_append_right (by omega), hl, Nat.sub_self]
   rw [hz] at hx
   injection hx with hx
   rw [hx]
   rfl
  ·
   rw [List.getElem?_append_left (by omega)]
   exact rp_get hx n (by omega) (by omega)
structure PreP (x : Po) : Prop where
 ok : okP x
 off : onP x = false → x.p11 = 0
 root : x.p10 = 3 → x.p11 = 2
 des : x.p10 = 4 → onP x = true
def PreL (l : List Po) : Prop := ∀ (k : Nat) (x : Po), l[k]? = some x → PreP x
structure RoI (t : TS) : Prop where
 pre : PreL t.s.po
 role : ∀ (k : Nat) (x : Po), t.s.po[k]? = some x → x.p10 = (rolesOf t).getD k 0
 shut : ∀ (k : Nat) (x : Po), t.s.po[k]? = some x → x.p10 ≠ 3 → x.p10 ≠ 4 → x.p11 = 0
 tell : ∀ (k : Nat) (x : Po), t.s.po[k]? = some x → x.p10 = 4 → vecN x = (tellsOf t).getD k ⟨0, 0, 0, 0⟩ ∧ x.p12 = 1
structure simP (x y : Po) : Prop where
 on : onP y = onP x
 role : y.p10 = x.p10
 info : y.p12 = x.p12
 vec : vecN y = vecN x
 cost : y.p3 = x.p3
 prio : y.p4 = x.p4
 far : y.p11 = x.p11 ∨ x.p10 = 4
 ok : okP x → okP y
theorem simP.refl (x : Po) : simP x x := ⟨rfl, rfl, rfl, rfl, rfl, rfl, .inl rfl, id⟩
theorem simP.trans {x y z : Po} (h : simP x y) (k : simP y z) : simP x z :=
 ⟨k.on.trans h.on, k.role.trans h.role, k.info.trans h.info, k.vec.trans h.vec, k.cost.trans h.cost, k.prio.trans h.prio, by
  rcases k.far with a | a
  ·
   rcases h.far with b | b
   ·
    exact .inl (a.trans b)
   ·
    exact .inr b
  ·
   exact .inr (h.role ▸ a), fun q => k.ok (h.ok q)⟩
def simL (l l' : List Po) : Prop := l'.length = l.length ∧ ∀ (k : Nat) (x : Po), l[k]? = some x → ∃ y, l'[k]? = some y ∧ simP x y
theorem simL.refl (l : List Po) : simL l l := ⟨rfl, fun k x hx => ⟨x, hx, simP.refl x⟩⟩
theorem simL.trans {a b c : List Po} (h : simL a b) (k : simL b c) : simL a c := ⟨k.1.trans h.1, fun j x hx => by
 obtain ⟨y, hy, p⟩ := h.2 j x hx
 obtain ⟨z, hz, q⟩ := k.2 j y hy
 exact ⟨z, hz, p.trans q⟩⟩
theorem simL.of_same {l l' : List Po} (h : sameBut l l') : simL l l' := ⟨h.1.symm, fun k x hx => by
 obtain ⟨y, hy, j, rfl⟩ := h.2 k x hx
 exact ⟨_, hy, ⟨rfl, rfl, rfl, rfl, rfl, rfl, .inl rfl, okP_ch⟩⟩⟩
theorem simL.of_set {l : List Po} {i : Nat} {x y : Po} (hx : l[i]? = some x) (h : simP x y) : simL l (l.set i y) := ⟨List.length_set, fun k z hz => by
 by_cases e : i = k
 ·
  subst e
  rw [hx] at hz
  injection hz with hz
  subst hz
  exact ⟨y, List.getElem?_set_self (List.getElem?_eq_some_iff.1 hx).1, h⟩
 ·
  exact ⟨z, by rw [List.getElem?_set_ne e]; exact hz, simP.refl z⟩⟩
theorem simL.of_map {f : Nat → Po → Po} {t : TS} (hf : ∀ k x, simP x (f k x)) : simL t.s.po (mapTo f t t.s.po.length).s.po := ⟨(mapTo_is f t _).1, fun k x hx => by
 have q := mapTo_get f t k t.s.po.length
 rw [if_pos (List.getElem?_eq_some_iff.1 hx).1, hx] at q
 exact ⟨_, q, hf k x⟩⟩
theorem simL.back {l l' : List Po} (h : simL l l') {k : Nat} {y : Po} (hy : l'[k]? = some y) : ∃ x, l[k]? = some x ∧ simP x y := by
 have hk : k < l.length := by rw [← h.1]; exact (List.getElem?_eq_some_iff.1 hy).1
 obtain ⟨y2, hy2, p⟩ := h.2 k _ (List.getElem?_eq_getElem hk)
 rw [hy] at hy2
 injection hy2 with hy2
 rw [hy2]
 exact ⟨_, List.getElem?_eq_getElem hk, p⟩
theorem rpN_sim {x y : Po} (h : simP x y) (k : Nat) : rpN y k = rpN x k := by
 unfold rpN idP
 rw [h.on, h.info, h.vec, h.cost, h.prio]
theorem rps_sim {l l' : List Po} (h : simL l l') : rpTo l' l'.length = rpTo l l.length := by
 refine List.ext_getElem? fun k => ?_
 by_cases hk : k < l.length
 ·
  obtain ⟨y, hy, p⟩ := h.2 k _ (List.getElem?_eq_getElem hk)
  rw [rp_get hy _ (Nat.le_refl _) (by rw [h.1]; exact hk), rp_get (List.getElem?_eq_getElem hk) _ (Nat.le_refl _) hk, rpN_sim p]
 ·
  rw [List.getElem?_eq_none (by rw [rpTo_len _ (Nat.le_refl _), h.1]; omega), List.getElem?_eq_none (by rw [rpTo_len _ (Nat.le_refl _)]; omega)]
theorem roles_sim {t t' : TS} (hc : t'.s.cf.p0 = t.s.cf.p0) (h : simL t.s.po t'.s.po) : rolesOf t' = rolesOf t ∧ tellsOf t' = tellsOf t := by
 have e1 : selfN t' = selfN t := by unfold selfN; rw [hc]
 have e2 : rpsOf t' = rpsOf t := rps_sim h
 have e3 : bestOf t' = bestOf t := by unfold bestOf; rw [e1, e2, h.1]
 unfold rolesOf tellsOf
 rw [e1, e2, e3, h.1]
 exact ⟨rfl, rfl⟩
theorem PreL.sim {l l' : List Po} (hp : PreL l) (h : simL l l') : PreL l' := fun k y hy => by
 obtain ⟨x, hx, p⟩ := h.back hy
 have q := hp k x hx
 refine ⟨p.ok q.ok, fun ho => ?_, fun hr => ?_, fun hr => ?_⟩
 ·
  rcases p.far with a | a
  ·
   rw [a]; exact q.off (p.on ▸ ho)
  ·
   have := q.des a
   rw [← p.on, ho] at this
   cases this
 ·
  rcases p.far with a | a
  ·
   rw [a]; exact q.root (p.role ▸ hr)
  ·
   rw [p.role, a] at hr; exact absurd hr (by decide)
 ·
  rw [p.on]; exact q.des (p.role ▸ hr)
theorem RoI.sim {t t' : TS} (h : RoI t) (hc : t'.s.cf.p0 = t.s.cf.p0) (hs : simL t.s.po t'.s.po) : RoI t' := by
 obtain ⟨e1, e2⟩ := roles_sim hc hs
 refine ⟨h.pre.sim hs, fun k y hy => ?_, fun k y hy h3 h4 => ?_, fun k y hy h4 => ?_⟩
 ·
  obtain ⟨x, hx, p⟩ := hs.back hy
  rw [p.role, e1]; exact h.role k x hx
 ·
  obtain ⟨x, hx, p⟩ := hs.back hy
  rcases p.far with a | a
  ·
   rw [a]; exact h.shut k x hx (p.role ▸ h3) (p.role ▸ h4)
  ·
   exact absurd (p.role.trans a) h4
 ·
  obtain ⟨x, hx, p⟩ := hs.back hy
  rw [p.vec, p.info, e2]
  exact h.tell k x hx (p.role ▸ h4)
theorem roles_on {t : TS} {k : Nat} {x : Po} (hx : t.s.po[k]? = some x) (ho : onP x = false) : (rolesOf t).getD k 0 = 0 := by
 have hk : k < t.s.po.length := (List.getElem?_eq_some_iff.1 hx).1
 have hr : (rpsOf t)[k]? = some (rpN x k) := rp_get hx _ (Nat.le_refl _) hk
 have hl : (rpsOf t).length = t.s.po.length := rpTo_len _ (Nat.le_refl _)
 have hK : ∀ R C, (rolesK (selfN t) R C (rpsOf t) t.s.po.length)[k]? = some 0 := fun R C => by
  unfold rolesK
  rw [List.getElem?_map, List.getElem?_take, if_pos hk, hr]
  show some (roleN _ _ (rpN x k)) = some 0
  unfold roleN rpN
  rw [ho]
  rfl
 rw [List.getD_eq_getElem?_getD]
 unfold rolesOf rolesE
 split
 ·
  rename_i q
  by_cases e : (portN (selfN t) (bestOf t) - 1).toNat = k
  ·
   exfalso
   cases c : bestOf t with
   | none => rw [c] at q; exact absurd (show (0 : Int) < 0 from q) (by decide)
   | some y =>
    obtain ⟨i, y⟩ := y
    obtain ⟨h1, h2, h3, -, -⟩ := best_is c
    rw [c] at q e
    have q : 0 < (if y.v.r < selfN t then (i : Int) + 1 else 0) := q
    have e : ((if y.v.r < selfN t then (i : Int) + 1 else 0) - 1).toNat = k := e
    by_cases g : y.v.r < selfN t
    ·
     rw [if_pos g] at e
     have e : i = k := by omega
     subst e
     rw [hr] at h2
     injection h2 with h2
     rw [← h2] at h3
     unfold wayB rpN at h3
     rw [ho] at h3
     simp at h3
    ·
     rw [if_neg g] at q
     exact absurd q (by decide)
  ·
   rw [List.getElem?_set_ne e, hK]; rfl
 ·
  rw [hK]; rfl
theorem tells_ok {t : TS} (hid : 0 ≤ t.s.cf.p0 ∧ t.s.cf.p0 < 18446744073709551616) (hp : PreL t.s.po) {k : Nat} (hk : k < t.s.po.length) : ((tellsOf t).getD k ⟨0, 0, 0, 0⟩).ok := by
 have hx : t.s.po[k]? = some (t.s.po[k]) := List.getElem?_eq_getElem hk
 have hr := rp_get hx _ (Nat.le_refl _) hk
 have hs : selfN t < 18446744073709551616 := by unfold selfN; omega
 rw [List.getD_eq_getElem?_getD]
 have e : (tellsOf t)[k]? = some (tellsV (selfN t) (rootN (selfN t) (bestOf t)) (costN (selfN t) (bestOf t)) (rpN (t.s.po[k]) k)) := by
  unfold tellsOf tellsK
  rw [List.getElem?_map, List.getElem?_take, if_pos hk, show (rpsOf t)[k]? = _ from hr]
  rfl
 rw [e]
 show (tellsV _ _ _ _).ok
 have hi := (rpN_ok (hp k _ hx).ok k).2.2
 have hb : rootN (selfN t) (bestOf t) < 18446744073709551616 ∧ costN (selfN t) (bestOf t) < 4294967296 := by
  cases c : bestOf t with
  | none => exact ⟨hs, by show 0 < _; decide⟩
  | some y =>
   obtain ⟨i, y⟩ := y
   obtain ⟨h1, h2, h3, -, -⟩ := best_is c
   obtain ⟨x, hx2⟩ : ∃ x, t.s.po[i]? = some x := ⟨_, List.getElem?_eq_getElem h1⟩
   have q := rp_get hx2 _ (Nat.le_refl _) h1
   rw [show (rpTo t.s.po t.s.po.length)[i]? = some y from h2] at q
   injection q with q
   have o : y.ok := q ▸ rpN_ok (hp i x hx2).ok i
   have o2 := plusV_ok o.1 y.c
   constructor
   ·
    show (if y.v.r < selfN t then y.v.r else selfN t) < _
    split
    ·
     exact o.1.1
    ·
     exact hs
   ·
    show (if y.v.r < selfN t then (plusV y.v y.c).c else 0) < _
    split
    ·
     exact o2.2.1
    ·
     decide
 exact ⟨hb.1, hb.2, hs, hi⟩
end
section
open Go.RowKit
theorem as_same {x : Po} (h : okP x) {r : Int} (hr : r ≠ 4) (v : Vc) (d : Int) (k : Nat) : rpN (assumeP x (vecN x) r v d) k = rpN x k := by
 unfold assumeP
 split
 ·
  rfl
 ·
  split
  ·
   split <;> rfl
  ·
   first | rfl | (rw [if_neg hr]; rfl)
theorem as_four (x : Po) (v : Vc) (d : Int) : assumeP x (vecN x) 4 v d = desP x (vecN x) v d := by
 unfold assumeP
 rw [if_neg (by decide), if_neg (by decide), if_pos rfl]
theorem des_is (x : Po) (v : Vc) (d : Int) : vecN (desP x (vecN x) v d) = v ∧ (desP x (vecN x) v d).p12 = 1 := by
 cases c : desB x (vecN x) v with
 | true =>
  refine ⟨?_, ?_⟩
  ·
   have e : vecN (desP x (vecN x) v d) = desV x (vecN x) v := rfl
   rw [e]
   unfold desV
   rw [c]
   rfl
  ·
   show (bif desB x (vecN x) v then (1 : Int) else x.p12) = 1
   rw [c]; rfl
 | false =>
  have c2 := c
  unfold desB at c2
  simp at c2
  obtain ⟨-, h12, he⟩ := c2
  refine ⟨?_, ?_⟩
  ·
   have e : vecN (desP x (vecN x) v d) = desV x (vecN x) v := rfl
   rw [e]
   unfold desV
   rw [c]
   show vecN x = v
   simp [eqV] at he
   obtain ⟨⟨⟨e1, e2⟩, e3⟩, e4⟩ := he
   cases v
   cases q : vecN x
   rw [q] at e1 e2 e3 e4
   simp_all
  ·
   show (bif desB x (vecN x) v then (1 : Int) else x.p12) = 1
   rw [c]; exact h12
theorem roles_off {t : TS} {k : Nat} {x : Po} (hx : t.s.po[k]? = some x) (ho : onP x = true) : (rolesOf t).getD k 0 ≠ 0 := by
 have hk : k < t.s.po.length := (List.getElem?_eq_some_iff.1 hx).1
 have hr : (rpsOf t)[k]? = some (rpN x k) := rp_get hx _ (Nat.le_refl _) hk
 have hl : (rpsOf t).length = t.s.po.length := rpTo_len _ (Nat.le_refl _)
 have hK : ∀ R C, ∃ r, r ≠ 0 ∧ (rolesK (selfN t) R C (rpsOf t) t.s.po.length)[k]? = some r := fun R C => by
  refine ⟨roleN (selfN t) (tellsV (selfN t) R C (rpN x k)) (rpN x k), ?_, ?_⟩
  ·
   unfold roleN
   rw [show (rpN x k).on = true from ho]
   rw [if_pos rfl]
   split
   ·
    split <;> decide
   ·
    decide
  ·
   unfold rolesK
   rw [List.getElem?_map, List.getElem?_take, if_pos hk, hr]
   rfl
 rw [List.getD_eq_getElem?_getD]
 unfold rolesOf rolesE
 split
 ·
  by_cases e : (portN (selfN t) (bestOf t) - 1).toNat = k
  ·
   rw [e, List.getElem?_set_self (by unfold rolesK; rw [tk_len _ (by omega)]; exact hk)]
   decide
  ·
   obtain ⟨r, h0, h1⟩ := hK (rootN (selfN t) (bestOf t)) (costN (selfN t) (bestOf t))
   rw [List.getElem?_set_ne e, h1]
   exact h0
 ·
  obtain ⟨r, h0, h1⟩ := hK (rootN (selfN t) (bestOf t)) (costN (selfN t) (bestOf t))
  rw [h1]
  exact h0
theorem choose_roles {t : TS} (hp : PreL t.s.po) (hid : 0 ≤ t.s.cf.p0 ∧ t.s.cf.p0 < 18446744073709551616) : RoI (chooseM t) := by
 obtain ⟨t1, ht1⟩ : ∃ z, z = mapTo (asF t) t t.s.po.length := ⟨_, rfl⟩
 have hlen : t1.s.po.length = t.s.po.length := by rw [ht1]; exact (mapTo_is _ _ _).1
 have hcf : t1.s.cf = t.s.cf := by rw [ht1]; exact (mapTo_is _ _ _).2.1
 have hat : ∀ k x, t.s.po[k]? = some x → t1.s.po[k]? = some (asF t k x) := fun k x hx => by
  have q := mapTo_get (asF t) t k t.s.po.length
  rw [if_pos (List.getElem?_eq_some_iff.1 hx).1, hx, ← ht1] at q
  exact q
 have hback : ∀ k y, t1.s.po[k]? = some y → ∃ x, t.s.po[k]? = some x ∧ y = asF t k x := fun k y hy => by
  have hk : k < t.s.po.length := by rw [← hlen]; exact (List.getElem?_eq_some_iff.1 hy).1
  have q := hat k _ (List.getElem?_eq_getElem hk)
  rw [hy] at q
  injection q with q
  exact ⟨_, List.getElem?_eq_getElem hk, q⟩
 -- what is chosen of what came of it
 have hfix : FixR (selfN t) (rolesOf t) (rpsOf t) (rpTo t1.s.po t1.s.po.length) := by
  refine ⟨?_, fun k a b hr ha hb => ?_, fun k r hr hn => ?_⟩
  ·
   rw [rpTo_len _ (Nat.le_refl _), hlen]; exact (rpTo_len _ (Nat.le_refl _)).symm
  ·
   have hk : k < t.s.po.length := by
    have := (List.getElem?_eq_some_iff.1 ha).1
    rw [show (rpsOf t).length = t.s.po.length from rpTo_len _ (Nat.le_refl _)] at this
    exact this
   have hx : t.s.po[k]? = some (t.s.po[k]) := List.getElem?_eq_getElem hk
   have e1 := rp_get hx _ (Nat.le_refl _) hk
   have e2 := rp_get (hat k _ hx) _ (Nat.le_refl _) (by rw [hlen]; exact hk)
   rw [show (rpsOf t)[k]? = _ from e1] at ha
   rw [e2] at hb
   injection ha with ha
   injection hb with hb
   have hg : (rolesOf t).getD k 0 = 4 := by rw [List.getD_eq_getElem?_getD, hr]; rfl
   have e3 : asF t k t.s.po[k] = desP t.s.po[k] (vecN t.s.po[k]) ((tellsOf t).getD k ⟨0, 0, 0, 0⟩) t.s.cf.p3 := by
    unfold asF
    rw [hg, as_four]
   rw [e3] at hb
   refine ⟨?_, ?_, ?_⟩
   ·
    rw [← ha, ← hb]; rfl
   ·
    rw [← hb]
    show decide ((desP _ _ _ _).p12 = 2) = false
    rw [(des_is _ _ _).2]
    decide
   ·
    rw [← ha, ← hb]; rfl
  ·
   by_cases hk : k < t.s.po.length
   ·
    have hx : t.s.po[k]? = some (t.s.po[k]) := List.getElem?_eq_getElem hk
    have hg : (rolesOf t).getD k 0 = r := by rw [List.getD_eq_getElem?_getD, hr]; rfl
    rw [rp_get (hat k _ hx) _ (Nat.le_refl _) (by rw [hlen]; exact hk), show (rpsOf t)[k]? = _ from rp_get hx _ (Nat.le_refl _) hk]
    unfold asF
    rw [hg, as_same (hp k _ hx).ok hn]
   ·
    rw [List.getElem?_eq_none (by rw [rpTo_len _ (Nat.le_refl _), hlen]; omega), List.getElem?_eq_none (by rw [show (rpsOf t).length = t.s.po.length from rpTo_len _ (Nat.le_refl _)]; omega)]
 have hl0 : (rpsOf t).length = t.s.po.length := rpTo_len _ (Nat.le_refl _)
 have hb := best_fix (self := selfN t) (l := rpsOf t) (n := t.s.po.length) hl0 (R := rootN (selfN t) (bestOf t)) (C := costN (selfN t) (bestOf t)) (P := portN (selfN t) (bestOf t)) rfl rfl rfl hfix (by rw [hl0]; exact rolesOf_len t)
 have hr := roles_fix (self := selfN t) (l := rpsOf t) (n := t.s.po.length) hl0 (R := rootN (selfN t) (bestOf t)) (C := costN (selfN t) (bestOf t)) (P := portN (selfN t) (bestOf t)) hfix (by rw [hl0]; exact rolesOf_len t)
 have hs1 : selfN t1 = selfN t := by unfold selfN; rw [hcf]
 have hro : rolesOf t1 = rolesOf t := by
  unfold rolesOf bestOf rpsOf
  rw [hs1, hlen] at *
  rw [hb.1, hb.2.1, hb.2.2]
  exact hr.1
 have hte : tellsOf t1 = tellsOf t := by
  unfold tellsOf bestOf rpsOf
  rw [hs1, hlen] at *
  rw [hb.1, hb.2.1]
  exact hr.2
 have main : RoI t1 := by
  refine ⟨fun k y hy => ?_, fun k y hy => ?_, fun k y hy h3 h4 => ?_, fun k y hy h4 => ?_⟩
  ·
   obtain ⟨x, hx, rfl⟩ := hback k y hy
   have q := hp k x hx
   have hk : k < t.s.po.length := (List.getElem?_eq_some_iff.1 hx).1
   obtain ⟨r, hrr⟩ : ∃ r, r = (rolesOf t).getD k 0 := ⟨_, rfl⟩
   obtain ⟨v, hvv⟩ : ∃ v, v = (tellsOf t).getD k ⟨0, 0, 0, 0⟩ := ⟨_, rfl⟩
   have hv : v.ok := by rw [hvv]; exact tells_ok hid hp hk
   have hon : onP (asF t k x) = onP x := by
    unfold asF assumeP
    split
    ·
     rfl
    ·
     split
     ·
      split <;> rfl
     ·
      split <;> rfl
   have h10 : (asF t k x).p10 = r := by rw [hrr]; exact assume_role _ _ _ _ _
   have hoff : onP x = false → r = 0 := fun ho => by rw [hrr]; exact roles_on hx ho
   have has : asF t k x = assumeP x (vecN x) r v t.s.cf.p3 := by rw [hrr, hvv]; rfl
   refine ⟨?_, fun ho => ?_, fun h => ?_, fun h => ?_⟩
   ·
    by_cases c : r = 4
    ·
     rw [has, c, as_four]
     obtain ⟨e1, e2⟩ := des_is x v t.s.cf.p3
     have e0 : vecN (desP x (vecN x) v t.s.cf.p3) = desV x (vecN x) v := rfl
     rw [e0] at e1
     obtain ⟨v1, v2, v3, v4⟩ := hv
     refine ⟨?_, ?_, ?_, ?_, q.ok.k⟩
     ·
      show 0 ≤ ((desV x (vecN x) v).r : Int) ∧ ((desV x (vecN x) v).r : Int) < _; rw [e1]; omega
     ·
      show 0 ≤ ((desV x (vecN x) v).c : Int) ∧ ((desV x (vecN x) v).c : Int) < _; rw [e1]; omega
     ·
      show 0 ≤ ((desV x (vecN x) v).b : Int) ∧ ((desV x (vecN x) v).b : Int) < _; rw [e1]; omega
     ·
      show 0 ≤ ((desV x (vecN x) v).p : Int) ∧ ((desV x (vecN x) v).p : Int) < _; rw [e1]; omega
    ·
     have e : ∀ y : Po, y = roleP x (vecN x) r ∨ (∃ s, y = restP (roleP x (vecN x) r) s) → okP y := fun y hy => by
      obtain ⟨⟨a1, a2⟩, ⟨b1, b2⟩, ⟨c1, c2⟩, ⟨d1, d2⟩, ek⟩ := q.ok
      have key : ∀ z : Po, z.p13 = ((vecN x).r : Int) → z.p14 = ((vecN x).c : Int) → z.p15 = ((vecN x).b : Int) → z.p16 = ((vecN x).p : Int) → z.p3 = x.p3 → okP z := fun z z1 z2 z3 z4 z5 => by
       refine ⟨?_, ?_, ?_, ?_, by rw [z5]; exact ek⟩
       ·
        rw [z1]; show 0 ≤ (x.p13.toNat : Int) ∧ (x.p13.toNat : Int) < _; omega
       ·
        rw [z2]; show 0 ≤ (x.p14.toNat : Int) ∧ (x.p14.toNat : Int) < _; omega
       ·
        rw [z3]; show 0 ≤ (x.p15.toNat : Int) ∧ (x.p15.toNat : Int) < _; omega
       ·
        rw [z4]; show 0 ≤ (x.p16.toNat : Int) ∧ (x.p16.toNat : Int) < _; omega
      rcases hy with rfl | ⟨s, rfl⟩
      ·
       exact key _ rfl rfl rfl rfl rfl
      ·
       exact key _ rfl rfl rfl rfl rfl
     rw [has]
     unfold assumeP
     split
     ·
      exact e _ (.inr ⟨_, rfl⟩)
     ·
      split
      ·
       split
       ·
        exact e _ (.inl rfl)
       ·
        exact e _ (.inr ⟨_, rfl⟩)
      ·
       first | exact e _ (.inl rfl) | (rw [if_neg c]; exact e _ (.inl rfl))
   ·
    rw [hon] at ho
    rw [has, hoff ho]
    exact q.off ho
   ·
    rw [h10] at h
    rw [has, h]
    unfold assumeP
    rw [if_neg (by decide), if_pos rfl]
    split
    ·
     rename_i h3; exact q.root h3
    ·
     rfl
   ·
    rw [h10] at h
    rw [hon]
    cases c : onP x with
    | true => rfl
    | false => have := hoff c; rw [h] at this; exact absurd this (by decide)
  ·
   obtain ⟨x, hx, rfl⟩ := hback k y hy
   rw [hro]
   exact assume_role _ _ _ _ _
  ·
   obtain ⟨x, hx, rfl⟩ := hback k y hy
   have h10 : (asF t k x).p10 = (rolesOf t).getD k 0 := assume_role _ _ _ _ _
   have hb := rolesOf_is t k
   rw [h10] at h3 h4
   by_cases c : (rolesOf t).getD k 0 = 1 ∨ (rolesOf t).getD k 0 = 2
   ·
    unfold asF assumeP
    rw [if_pos c]
    rfl
   ·
    have c0 : (rolesOf t).getD k 0 = 0 := by omega
    have ho : onP x = false := by
     cases co : onP x with
     | false => rfl
     | true => exact absurd c0 (roles_off hx co)
    unfold asF assumeP
    rw [c0, if_neg (by decide), if_neg (by decide), if_neg (by decide)]
    exact (hp k x hx).off ho
  ·
   obtain ⟨x, hx, rfl⟩ := hback k y hy
   have h10 : (asF t k x).p10 = (rolesOf t).getD k 0 := assume_role _ _ _ _ _
   rw [h10] at h4
   have e3 : asF t k x = desP x (vecN x) ((tellsOf t).getD k ⟨0, 0, 0, 0⟩) t.s.cf.p3 := by
    unfold asF
    rw [h4, as_four]
   rw [e3, hte]
   exact des_is _ _ _
 -- what changed topology, and what is told
 have hse : simL t1.s.po (chooseM t).s.po := by
  have a := foldChanged_same t1 (markTo (openF t) t.s.po t.s.po.length) (markTo (openF t) t.s.po t.s.po.length).length
  have b := (foldTell_is (foldT changedM t1 (markTo (openF t) t.s.po t.s.po.length) (markTo (openF t) t.s.po t.s.po.length).length) (markTo (anewF t) t.s.po t.s.po.length) (markTo (anewF t) t.s.po t.s.po.length).length).1
  have e : (chooseM t).s.po = (foldT changedM t1 (markTo (openF t) t.s.po t.s.po.length) (markTo (openF t) t.s.po t.s.po.length).length).s.po := by
   rw [ht1] at b ⊢
   exact congrArg (fun z => z.po) b
  rw [e]
  exact simL.of_same a
 exact main.sim (by rw [(chooseM_is t).2.1, hcf]) hse
end
section
open Go.RowKit
structure Iv (s : St) : Prop where
 ro : RoI ⟨s, [], []⟩
 few : s.po.length ≤ 6
 id : 0 ≤ s.cf.p0 ∧ s.cf.p0 < 18446744073709551616
theorem Iv.ok {s : St} (h : Iv s) (k : Nat) (x : Po) (hx : s.po[k]? = some x) : okP x := (h.ro.pre k x hx).ok
theorem RoI.same {t t' : TS} (h : RoI t) (hs : t'.s = t.s) : RoI t' := h.sim (by rw [hs]) (by rw [hs]; exact simL.refl _)
theorem PreL.map {f : Nat → Po → Po} {t : TS} (h : PreL t.s.po) (hf : ∀ k x, PreP x → PreP (f k x)) : PreL (mapTo f t t.s.po.length).s.po := fun k y hy => by
 have hk : k < t.s.po.length := by rw [← (mapTo_is f t t.s.po.length).1]; exact (List.getElem?_eq_some_iff.1 hy).1
 have q := mapTo_get f t k t.s.po.length
 rw [if_pos hk, hy, List.getElem?_eq_getElem hk] at q
 have q : some y = some (f k t.s.po[k]) := q
 injection q with q
 rw [q]
 exact hf k _ (h k _ (List.getElem?_eq_getElem hk))
theorem PreL.set {l : List Po} {i : Nat} {z : Po} (h : PreL l) (hz : PreP z) : PreL (l.set i z) := fun k y hy => by
 rcases set_cases hy with ⟨-, e⟩ | e
 ·
  rw [e]; exact hz
 ·
  exact h k y e
theorem pre_switch {x : Po} {up ad : Bool} {d : Int} (h : PreP x) : PreP (switchP x up ad d) := by
 refine ⟨okP_switch h.ok, fun ho => ?_, fun hr => ?_, fun hr => ?_⟩
 ·
  unfold switchP at ho ⊢
  split
  ·
   rename_i c
   rw [if_pos c] at ho
   split
   ·
    rename_i c2
    rw [if_pos c2] at ho
    have ho : (up && ad) = false := ho
    rw [c] at ho
    cases ho
   ·
    rfl
  ·
   rfl
 ·
  unfold switchP at hr ⊢
  split
  ·
   rename_i c
   rw [if_pos c] at hr
   split
   ·
    rename_i c2
    rw [if_pos c2] at hr
    exact h.root hr
   ·
    rename_i c2
    rw [if_neg c2] at hr
    exact absurd (show (0 : Int) = 3 from hr) (by decide)
  ·
   rename_i c
   rw [if_neg c] at hr
   exact absurd (show (0 : Int) = 3 from hr) (by decide)
 ·
  unfold switchP at hr ⊢
  split
  ·
   rename_i c
   rw [if_pos c] at hr
   split
   ·
    exact c
   ·
    rename_i c2
    rw [if_neg c2] at hr
    exact absurd (show (0 : Int) = 4 from hr) (by decide)
  ·
   rename_i c
   rw [if_neg c] at hr
   exact absurd (show (0 : Int) = 4 from hr) (by decide)
theorem pre_fade {x : Po} (h : PreP x) : PreP (tick1 (fadeP x)) := by
 have a : PreP (fadeP x) := by
  unfold fadeP
  split
  ·
   split
   ·
    exact ⟨⟨h.ok.r, h.ok.c, h.ok.b, h.ok.p, h.ok.k⟩, h.off, h.root, h.des⟩
   ·
    exact ⟨okP_zero h.ok _ rfl rfl rfl rfl rfl, h.off, h.root, h.des⟩
  ·
   exact h
 unfold tick1
 split
 ·
  exact ⟨⟨a.ok.r, a.ok.c, a.ok.b, a.ok.p, a.ok.k⟩, a.off, a.root, a.des⟩
 ·
  exact a
theorem sim_step (d : Int) (x : Po) : simP x (stepP x d) := by
 unfold stepP
 split
 ·
  rename_i c
  split
  ·
   exact simP.refl x
  ·
   split
   ·
    exact ⟨rfl, rfl, rfl, rfl, rfl, rfl, .inl rfl, fun h => ⟨h.r, h.c, h.b, h.p, h.k⟩⟩
   ·
    split
    ·
     exact ⟨rfl, rfl, rfl, rfl, rfl, rfl, .inr c, fun h => ⟨h.r, h.c, h.b, h.p, h.k⟩⟩
    ·
     split
     ·
      exact ⟨rfl, rfl, rfl, rfl, rfl, rfl, .inr c, fun h => ⟨h.r, h.c, h.b, h.p, h.k⟩⟩
     ·
      exact ⟨rfl, rfl, rfl, rfl, rfl, rfl, .inr c, fun h => ⟨h.r, h.c, h.b, h.p, h.k⟩⟩
 ·
  exact simP.refl x
theorem sim_block (d : Int) (x : Po) : simP x (blockP x d) := by
 unfold blockP
 split
 ·
  rename_i c
  exact ⟨rfl, rfl, rfl, rfl, rfl, rfl, .inr c.1, fun h => ⟨h.r, h.c, h.b, h.p, h.k⟩⟩
 ·
  exact simP.refl x
theorem sim_agree (x : Po) : simP x (agreeP x) := by
 unfold agreeP
 split
 ·
  rename_i c
  exact ⟨rfl, rfl, rfl, rfl, rfl, rfl, .inr c, fun h => ⟨h.r, h.c, h.b, h.p, h.k⟩⟩
 ·
  exact simP.refl x
theorem pre_hear {x : Po} {u v : Vc} {a : Int} {c : Cf} (h : PreP (poU x u)) (hv : v.ok) : PreP (hearP x u v a c) := by
 refine ⟨okP_hear h.ok hv, fun ho => ?_, fun hr => ?_, fun hr => ?_⟩
 ·
  unfold hearP at ho ⊢
  split
  ·
   rename_i c1
   rw [if_pos c1] at ho
   exact h.off ho
  ·
   split
   ·
    rename_i c1 c2
    rw [if_neg c1, if_pos c2] at ho
    exact h.off ho
   ·
    rename_i c1 c2
    rw [if_neg c1, if_neg c2] at ho
    exact h.off ho
 ·
  unfold hearP at hr ⊢
  split
  ·
   rename_i c1
   rw [if_pos c1] at hr
   exact h.root hr
  ·
   split
   ·
    rename_i c1 c2
    rw [if_neg c1, if_pos c2] at hr
    exact h.root hr
   ·
    rename_i c1 c2
    rw [if_neg c1, if_neg c2] at hr
    exact h.root hr
 ·
  unfold hearP at hr ⊢
  split
  ·
   rename_i c1
   rw [if_pos c1] at hr
   exact h.des hr
  ·
   split
   ·
    rename_i c1 c2
    rw [if_neg c1, if_pos c2] at hr
    exact h.des hr
   ·
    rename_i c1 c2
    rw [if_neg c1, if_neg c2] at hr
    exact h.des hr
theorem answer_sim (t : TS) (i : Nat) : simL t.s.po (answerM t i).s.po ∧ (answerM t i).s.cf = t.s.cf := by
 unfold answerM
 split
 ·
  rename_i x _
  split
  ·
   have e : ∀ (t : TS) (q : Pd), (sendM t i q).s = t.s := fun t q => by
    unfold sendM
    split <;> rfl
   refine ⟨?_, ?_⟩
   ·
    rw [e]
    exact simL.of_map (fun k x => by
     unfold blkF
     split
     ·
      exact simP.refl x
     ·
      exact sim_block _ x)
   ·
    rw [e]; exact (mapTo_is _ _ _).2.1
  ·
   exact ⟨simL.refl _, rfl⟩
 ·
  exact ⟨simL.refl _, rfl⟩
theorem tick_s (s : St) : (tickM s).s.po = (stepMM (chooseM (fadeM ⟨s, [], []⟩))).s.po ∧ (tickM s).s.cf = (stepMM (chooseM (fadeM ⟨s, [], []⟩))).s.cf := by
 have key : ∀ t3 : TS, (let t4 := t3.setBeat (IntKind.i64.wrap (t3.s.beat - 1)); if t4.s.beat ≤ 0 then beatM (t4.setBeat t4.s.cf.p2) else t4).s.po = t3.s.po ∧ (let t4 := t3.setBeat (IntKind.i64.wrap (t3.s.beat - 1)); if t4.s.beat ≤ 0 then beatM (t4.setBeat t4.s.cf.p2) else t4).s.cf = t3.s.cf := fun t3 => by
  dsimp only
  split
  ·
   rw [(beatM_is _).1]; exact ⟨rfl, rfl⟩
  ·
   exact ⟨rfl, rfl⟩
 exact key _
theorem tick_iv {s : St} (h : Iv s) : Iv (tickM s).s := by
 have hf := fadeM_is ⟨s, [], []⟩
 have p1 : PreL (fadeM ⟨s, [], []⟩).s.po := PreL.map (t := ⟨s, [], []⟩) h.ro.pre (fun k x hx => pre_fade hx)
 have r2 := choose_roles p1 (by rw [hf.2.1]; exact h.id)
 have c2 := chooseM_is (fadeM ⟨s, [], []⟩)
 have c3 := stepMM_is (chooseM (fadeM ⟨s, [], []⟩))
 have s3 : simL (chooseM (fadeM ⟨s, [], []⟩)).s.po (stepMM (chooseM (fadeM ⟨s, [], []⟩))).s.po := by
  generalize chooseM (fadeM ⟨s, [], []⟩) = t
  refine (simL.of_map (f := stF t.s.cf.p3) (fun k x => sim_step _ x)).trans ?_
  exact simL.of_same (foldChanged_same _ _ _)
 have r3 := r2.sim (by rw [c3.2.1]) s3
 have e := tick_s s
 refine ⟨r3.sim (by rw [e.2]) (by rw [e.1]; exact simL.refl _), ?_, ?_⟩
 ·
  rw [e.1, c3.1, c2.1, hf.1]; exact h.few
 ·
  rw [e.2, c3.2.1, c2.2.1, hf.2.1]; exact h.id
theorem start_iv {s : St} (hp : PreL s.po) (hf : s.po.length ≤ 6) (hid : 0 ≤ s.cf.p0 ∧ s.cf.p0 < 18446744073709551616) : Iv (startM s).s := by
 have q := mapTo_is (begF s.cf.p3) ((⟨s, [], []⟩ : TS).setBeat 0) s.po.length
 have p1 : PreL (mapTo (begF s.cf.p3) ((⟨s, [], []⟩ : TS).setBeat 0) s.po.length).s.po := PreL.map (t := (⟨s, [], []⟩ : TS).setBeat 0) hp (fun k x hx => pre_switch (pre_switch hx))
 have r := choose_roles p1 (by rw [q.2.1]; exact hid)
 have c := chooseM_is (mapTo (begF s.cf.p3) ((⟨s, [], []⟩ : TS).setBeat 0) s.po.length)
 unfold startM
 generalize hz : mapTo (begF s.cf.p3) ((⟨s, [], []⟩ : TS).setBeat 0) s.po.length = t at q p1 r c
 exact ⟨r.same rfl, by rw [c.1, q.1]; exact hf, by rw [c.2.1, q.2.1]; exact hid⟩
theorem switch_iv {s : St} (h : Iv s) (p : Int) (up ad : Bool) : Iv (switchC s p up ad).s := by
 unfold switchC
 split
 ·
  split
  ·
   rename_i x hx
   have hz : PreL (s.po.set (p - 1).toNat (switchP x up ad s.cf.p3)) := h.ro.pre.set (pre_switch (h.ro.pre _ x hx))
   have key : ∀ t : TS, t.s.po = s.po.set (p - 1).toNat (switchP x up ad s.cf.p3) → t.s.cf = s.cf → Iv (chooseM t).s := fun t h1 h2 => by
    have c := chooseM_is t
    exact ⟨(choose_roles (by rw [h1]; exact hz) (by rw [h2]; exact h.id)).same rfl, by rw [c.1, h1, List.length_set]; exact h.few, by rw [c.2.1, h2]; exact h.id⟩
   split
   ·
    exact key _ rfl rfl
   ·
    exact key _ rfl rfl
  ·
   exact h
 ·
  exact h
theorem hear_iv {s : St} (h : Iv s) (p : Int) (q : Pd) {v : Vc} (hv : v.ok) : Iv (hearC s p q v).s := by
 unfold hearC
 split
 ·
  split
  ·
   rename_i x hx
   split
   ·
    obtain ⟨i, hi⟩ : ∃ i, i = (p - 1).toNat := ⟨_, rfl⟩
    rw [← hi] at hx ⊢
    have hxu : s.po[i]? = some (poU x (vecN x)) := by rw [← okP_poU (h.ok i x hx)]; exact hx
    rw [hearM_some (t := ⟨s, [], []⟩) q v hxu]
    -- what a PDU says, at a port that is like it
    obtain ⟨t1, ht1⟩ : ∃ z : TS, z = (⟨s, [], []⟩ : TS).setPo (s.po.set i (poU (plainP x) (vecN x))) := ⟨_, rfl⟩
    have g1 : RoI t1 ∧ t1.s.po.length = s.po.length ∧ t1.s.cf = s.cf ∧ ∃ y, t1.s.po[i]? = some (poU y (vecN x)) := by
     rw [ht1]
     refine ⟨h.ro.sim rfl (simL.of_set hxu ⟨rfl, rfl, rfl, rfl, rfl, rfl, .inl rfl, okP_plain⟩), List.length_set, rfl, _, List.getElem?_set_self (List.getElem?_eq_some_iff.1 hx).1⟩
    have g2 : RoI (spreadM t1 i) ∧ (spreadM t1 i).s.po.length = s.po.length ∧ (spreadM t1 i).s.cf = s.cf ∧ ∃ y, (spreadM t1 i).s.po[i]? = some (poU y (vecN x)) := by
     obtain ⟨a, b, c, y, d⟩ := g1
     have e := spread_is t1 i
     exact ⟨a.sim (by rw [e.2.1]) (simL.of_same (spread_same t1 i)), e.1.trans b, e.2.1.trans c, spread_at d⟩
    have agr : ∀ t : TS, RoI t ∧ t.s.po.length = s.po.length ∧ t.s.cf = s.cf ∧ (∃ y, t.s.po[i]? = some (poU y (vecN x))) → Iv (agreeM t i q v).s := fun t ⟨a, b, c, y, d⟩ => by
     have hb : Iv t.s := ⟨a.same rfl, by rw [b]; exact h.few, by rw [c]; exact h.id⟩
     unfold agreeM
     rw [d]
     show Iv ((if _ then (if _ then _ else _) else _ : TS)).s
     split
     ·
      have r2 : RoI (t.setPo (t.s.po.set i (agreeP (poU y (vecN x))))) := a.sim rfl (simL.of_set d (sim_agree _))
      split
      ·
       have e := changedM_is (t.setPo (t.s.po.set i (agreeP (poU y (vecN x))))) i
       refine ⟨(r2.sim (by rw [e.2.1]) (simL.of_same (changedM_same _ i))).same rfl, ?_, ?_⟩
       ·
        rw [e.1]; show (t.s.po.set i _).length ≤ 6; rw [List.length_set, b]; exact h.few
       ·
        rw [e.2.1]; show 0 ≤ t.s.cf.p0 ∧ t.s.cf.p0 < _; rw [c]; exact h.id
      ·
       exact ⟨r2.same rfl, by show (t.s.po.set i _).length ≤ 6; rw [List.length_set, b]; exact h.few, by show 0 ≤ t.s.cf.p0 ∧ t.s.cf.p0 < _; rw [c]; exact h.id⟩
     ·
      exact hb
    have tak : ∀ t : TS, RoI t ∧ t.s.po.length = s.po.length ∧ t.s.cf = s.cf ∧ (∃ y, t.s.po[i]? = some (poU y (vecN x))) → Iv (takeM t i q v).s := fun t ⟨a, b, c, y, d⟩ => by
     rw [takeM_some q v d]
     obtain ⟨z, hz⟩ : ∃ z, z = hearP y (vecN x) v (IntKind.i64.wrap q.p12) t.s.cf := ⟨_, rfl⟩
     rw [← hz]
     have pz : PreP z := by rw [hz]; exact pre_hear (a.pre i _ d) hv
     have hl : (t.s.po.set i z).length ≤ 6 := by rw [List.length_set, b]; exact h.few
     have base : hearN y (vecN x) v (IntKind.i64.wrap q.p12) t.s.cf = 0 ∨ hearN y (vecN x) v (IntKind.i64.wrap q.p12) t.s.cf = 1 → Iv (t.setPo (t.s.po.set i z)).s := fun hh => by
      have ez : z = poU y (vecN x) := by
       rw [hz]
       unfold hearN at hh
       unfold hearP
       split
       ·
        rfl
       ·
        rename_i c1
        rw [if_neg c1] at hh
        split
        ·
         rename_i c2
         rw [if_pos c2] at hh
         split at hh <;> omega
        ·
         rfl
      rw [ez, set_same d]
      exact ⟨a.same rfl, by show t.s.po.length ≤ 6; rw [b]; exact h.few, by show 0 ≤ t.s.cf.p0 ∧ t.s.cf.p0 < _; rw [c]; exact h.id⟩
     have cho : Iv (chooseM (t.setPo (t.s.po.set i z))).s := by
      have e := chooseM_is (t.setPo (t.s.po.set i z))
      exact ⟨(choose_roles (a.pre.set pz) (by show 0 ≤ t.s.cf.p0 ∧ t.s.cf.p0 < _; rw [c]; exact h.id)).same rfl, by rw [e.1]; exact hl, by rw [e.2.1]; show 0 ≤ t.s.cf.p0 ∧ t.s.cf.p0 < _; rw [c]; exact h.id⟩
     split
     ·
      rename_i k1
      split
      ·
       rw [(tellM_is _ _).1]; exact base (.inr k1)
      ·
       exact base (.inr k1)
     ·
      rename_i k1
      split
      ·
       split
       ·
        obtain ⟨e1, e2⟩ := answer_sim (chooseM (t.setPo (t.s.po.set i z))) i
        have r := cho.ro.sim (t' := answerM (chooseM (t.setPo (t.s.po.set i z))) i) (by rw [e2]) e1
        exact ⟨r.same rfl, by rw [e1.1]; exact cho.few, by rw [e2]; exact cho.id⟩
       ·
        exact cho
      ·
       rename_i k2
       refine base (.inl ?_)
       rcases hearN_is y (vecN x) v (IntKind.i64.wrap q.p12) t.s.cf with k | k | k | k
       ·
        exact k
       ·
        exact absurd k k1
       ·
        exact absurd (.inl k) k2
       ·
        exact absurd (.inr k) k2
    have pln : ∀ t : TS, RoI t ∧ t.s.po.length = s.po.length ∧ t.s.cf = s.cf ∧ (∃ y, t.s.po[i]? = some (poU y (vecN x))) → Iv t.s := fun t ⟨a, b, c, _⟩ => ⟨a.same rfl, by rw [b]; exact h.few, by rw [c]; exact h.id⟩
    rw [← ht1]
    split
    ·
     split
     ·
      exact pln _ g2
     ·
      exact pln _ g1
    ·
     split
     ·
      split
      ·
       exact agr _ g2
      ·
       exact tak _ g2
     ·
      split
      ·
       exact agr _ g1
      ·
       exact tak _ g1
   ·
    exact h
  ·
   exact h
 ·
  exact h
theorem made_iv (x : Sg) (l : List Pg) : Iv (startM (madeS x l)).s := by
 refine start_iv (fun k y hy => ⟨made_ok x l k y hy, fun _ => ?_, fun h => ?_, fun h => ?_⟩) (made_few x l) (made_id x l)
 all_goals
  have hy : ((l.take 6).map madeP)[k]? = some y := hy
  rw [List.getElem?_map] at hy
  cases c : (l.take 6)[k]? with
  | none => rw [c] at hy; cases hy
  | some z =>
   rw [c] at hy
   have hy : some (madeP z) = some y := hy
   injection hy with hy
   subst hy
   first | rfl | exact absurd (show (0 : Int) = 3 from h) (by decide) | exact absurd (show (0 : Int) = 4 from h) (by decide)
end
section
open Go.RowKit
attribute [local irreducible] wpQuiet wpList
theorem own_range {W : World} {B : Nat} {l : List Po} {g n m k : Nat} {x : Po} (h : Own W B 73 21 poC (.slice (some ⟨g, 0, none⟩) n m) l) (hx : l[k]? = some x) : W.rangeAt g (k * 21) (poA x).toList := fun j v hv => Own.cellAt po_len h hx hv rfl
theorem own_ptr {W : World} {B n m : Nat} {a : Option Addr} {l : List Po} {k : Nat} {x : Po} (h : Own W B 73 21 poC (.slice a n m) l) (hx : l[k]? = some x) : ∃ g, a = some ⟨g, 0, none⟩ := by
 rcases h.cases with ⟨-, e⟩ | ⟨g, c, e, -⟩
 ·
  rw [e] at hx; cases hx
 ·
  injection e with e1 e2 e3; exact ⟨g, e1⟩
theorem open_bit (sv : Int) (l : List Po) (k : Nat) (x : Po) (hx : l[k]? = some x) : ∀ n, k < n → n ≤ l.length → (openU sv l n / 2 ^ k % 2 = 1 ↔ (onP x = true ∧ sv ≤ x.p11))
 | 0, h, _ => absurd h (Nat.not_lt_zero _)
 | n + 1, h, hn => by
  obtain ⟨y, hy⟩ : ∃ y, l[n]? = some y := ⟨_, List.getElem?_eq_getElem (by omega)⟩
  have hlt := openU_lt sv l n
  have tb : ∀ z : Nat, (z / 2 ^ k % 2 = 1 ↔ z.testBit k = true) := fun z => by rw [Nat.testBit_eq_decide_div_mod_eq, decide_eq_true_iff]
  rw [tb, openU_step hy]
  by_cases e : k = n
  ·
   subst e
   rw [hx] at hy
   injection hy with hy
   subst hy
   have h0 : (openU sv l k).testBit k = false := Nat.testBit_lt_two_pow hlt
   split
   ·
    rename_i c
    rw [Nat.testBit_or, h0, Nat.testBit_two_pow_self]
    simp [c]
   ·
    rename_i c
    rw [h0]
    simp [c]
  ·
   have ih := open_bit sv l k x hx n (by omega) (by omega)
   rw [tb] at ih
   split
   ·
    rw [Nat.testBit_or, Nat.testBit_two_pow_of_ne (by omega), Bool.or_false]
    exact ih
   ·
    exact ih
end
end Go.Proofs.YteeinlbhcdpnnaaDoor
