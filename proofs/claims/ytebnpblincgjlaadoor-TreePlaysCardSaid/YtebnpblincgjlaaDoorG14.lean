import Derived.Test.YtebnpblincgjlaaDoorG13
set_option linter.unusedSimpArgs false
set_option linter.unusedVariables false
namespace Go.Proofs.YtebnpblincgjlaaDoor
section
/- Layer 18, by the evaluator: changed, spread. -/
open Go.RowKit
open Ev
set_option maxRecDepth 100000
def chgStep (h : Int) (i : Nat) (t : TS) (k : Nat) : TS := match t.s.po[k]? with
 | some x => if k = i ∨ innerB x = false then t else (if linkB x = true then t.setPo (t.s.po.set k (chP x h)) else t).flush ((k : Int) + 1)
 | none => t
def chgTo (h : Int) (i : Nat) (t : TS) : Nat → TS
 | 0 => t
 | k + 1 => chgStep h i (chgTo h i t k) k
def changedM (t : TS) (i : Nat) : TS := match t.s.po[i]? with
 | some x => if edgeB x = true then t else chgTo (twoH t) i (t.setPo (t.s.po.set i (chP x (twoH t)))) t.s.po.length
 | none => t
def sprStep (h : Int) (i : Nat) (t : TS) (k : Nat) : TS := match t.s.po[k]? with
 | some x => if k = i ∨ innerB x = false ∨ linkB x = false then t else (t.setPo (t.s.po.set k (chP x h))).flush ((k : Int) + 1)
 | none => t
def sprTo (h : Int) (i : Nat) (t : TS) : Nat → TS
 | 0 => t
 | k + 1 => sprStep h i (sprTo h i t k) k
def spreadM (t : TS) (i : Nat) : TS := sprTo (twoH t) i t t.s.po.length
theorem chgStep_is (h : Int) (i : Nat) (t : TS) (k : Nat) : (chgStep h i t k).s.po.length = t.s.po.length ∧ (chgStep h i t k).s.cf = t.s.cf ∧ (chgStep h i t k).fl.length ≤ t.fl.length + 1 ∧ (chgStep h i t k).told = t.told := by
 unfold chgStep
 split
 ·
  split
  ·
   exact ⟨rfl, rfl, Nat.le_succ _, rfl⟩
  ·
   split
   ·
    refine ⟨?_, rfl, ?_, rfl⟩
    ·
     show (t.s.po.set k _).length = _
     rw [List.length_set]
    ·
     show (t.fl ++ [_]).length ≤ _
     simp
   ·
    refine ⟨rfl, rfl, ?_, rfl⟩
    show (t.fl ++ [_]).length ≤ _
    simp
 ·
  exact ⟨rfl, rfl, Nat.le_succ _, rfl⟩
theorem chgTo_is (h : Int) (i : Nat) (t : TS) : ∀ k, (chgTo h i t k).s.po.length = t.s.po.length ∧ (chgTo h i t k).s.cf = t.s.cf ∧ (chgTo h i t k).fl.length ≤ t.fl.length + k ∧ (chgTo h i t k).told = t.told
 | 0 => ⟨rfl, rfl, Nat.le_refl _, rfl⟩
 | k + 1 => by
  have a := chgTo_is h i t k
  have b := chgStep_is h i (chgTo h i t k) k
  exact ⟨b.1.trans a.1, b.2.1.trans a.2.1, by have := a.2.2.1; have := b.2.2.1; show (chgStep h i (chgTo h i t k) k).fl.length ≤ _; omega, b.2.2.2.trans a.2.2.2⟩
theorem sprStep_is (h : Int) (i : Nat) (t : TS) (k : Nat) : (sprStep h i t k).s.po.length = t.s.po.length ∧ (sprStep h i t k).s.cf = t.s.cf ∧ (sprStep h i t k).fl.length ≤ t.fl.length + 1 ∧ (sprStep h i t k).told = t.told := by
 unfold sprStep
 split
 ·
  split
  ·
   exact ⟨rfl, rfl, Nat.le_succ _, rfl⟩
  ·
   refine ⟨?_, rfl, ?_, rfl⟩
   ·
    show (t.s.po.set k _).length = _
    rw [List.length_set]
   ·
    show (t.fl ++ [_]).length ≤ _
    simp
 ·
  exact ⟨rfl, rfl, Nat.le_succ _, rfl⟩
theorem sprTo_is (h : Int) (i : Nat) (t : TS) : ∀ k, (sprTo h i t k).s.po.length = t.s.po.length ∧ (sprTo h i t k).s.cf = t.s.cf ∧ (sprTo h i t k).fl.length ≤ t.fl.length + k ∧ (sprTo h i t k).told = t.told
 | 0 => ⟨rfl, rfl, Nat.le_refl _, rfl⟩
 | k + 1 => by
  have a := sprTo_is h i t k
  have b := sprStep_is h i (sprTo h i t k) k
  exact ⟨b.1.trans a.1, b.2.1.trans a.2.1, by have := a.2.2.1; have := b.2.2.1; show (sprStep h i (sprTo h i t k) k).fl.length ≤ _; omega, b.2.2.2.trans a.2.2.2⟩
theorem twoH_cf {t t' : TS} (h : t'.s.cf = t.s.cf) : twoH t' = twoH t := by unfold twoH; rw [h]
theorem cast_is (k i : Nat) : decide ((k : Int) = (i : Int)) = decide (k = i) := by rw [decide_eq_decide]; omega
section
variable (T : TS) (a : Option Addr) (n m : Nat) (v2 v3 v4 : Value) (y : H2) (R : Bd) (i k : Nat)
def spS : Ev.St := ⟨sp 45 [(0, .p 0 0), (1, .v (iv (i : Nat))), (10, .v (.slice a n m)), (11, .v (iv (n : Nat))), (12, .v (iv (k : Nat)))], [(acA T ⟨a, n, m, v2, v3, v4⟩ y, 112)], acO T ⟨a, n, m, v2, v3, v4⟩ y ++ [R]⟩
def chS2 : Ev.St := ⟨sp 56 [(0, .p 0 0), (1, .v (iv (i : Nat))), (22, .v (.slice a n m)), (23, .v (iv (n : Nat))), (24, .v (iv (k : Nat)))], [(acA T ⟨a, n, m, v2, v3, v4⟩ y, 112)], acO T ⟨a, n, m, v2, v3, v4⟩ y ++ [R]⟩
end
section
variable (t : TS) (a : Option Addr) (n m : Nat) (v2 v3 v4 : Value) (y0 : H2) (R : Bd) (i : Nat)
theorem spread_loop (hl : t.s.po.length = n) (hn : n ≤ 1000) (hf : t.fl.length + n ≤ 1900) : TY Tryd.prog 1 (.loop (loopN Tryd.prog 63 0)) (spS t a n m v2 v3 v4 y0 R i 0) H2 (.exit 0) (fun y => spS (sprTo (twoH t) i t n) a n m v2 v3 v4 y R i n) := by
  refine T_loop (I := {k : Nat // k ≤ n} × H2) (fun j => spS (sprTo (twoH t) i t j.1.1) a n m v2 v3 v4 j.2 R i j.1.1) (fun j => n - j.1.1) (by simp) _ (fun ⟨⟨k, hk⟩, y⟩ => ?_) (⟨0, Nat.zero_le _⟩, y0)
  have f := sprTo_is (twoH t) i t k
  have ht := twoH_cf f.2.1
  have e1 : sprTo (twoH t) i t (k + 1) = sprStep (twoH t) i (sprTo (twoH t) i t k) k := rfl
  by_cases h : k < n
  · obtain ⟨T, hT⟩ : ∃ T, sprTo (twoH t) i t k = T := ⟨_, rfl⟩
    rw [hT] at f ht e1
    have hlT : T.s.po.length = n := f.1.trans hl
    obtain ⟨x, hx⟩ : ∃ x, T.s.po[k]? = some x := ⟨_, List.getElem?_eq_getElem (by omega)⟩
    have d : decide ((k : Int) < (n : Int)) = true := by simp; omega
    have hlt : n - (k + 1) < n - k := by omega
    unfold sprStep at e1
    rw [hx] at e1
    dsimp only at e1
    by_cases hki : k = i
    · rw [if_pos (.inl hki)] at e1
      have hd := (cast_is k i).trans (decide_eq_true hki)
      refine step_at (spS T a n m v2 v3 v4 y R i k) (by rw [← hT]) ?_ ?_ (Nat.le_refl 1)
      exact fun go out => [.b _ _ d, oJx poE 0 a n m h hlT, oJd poE 0 a n m hx hlT, .b (!_) _ (nb hd), No, No, .r _ _ (wrap_next h (by omega)), go (⟨k + 1, h⟩, y) hlt (spS T a n m v2 v3 v4 y R i (k + 1)) (by show _ = spS (sprTo (twoH t) i t (k + 1)) _ _ _ _ _ _ _ _ _ _; rw [e1])]
      intro _ _; kernel_rfl
    · have hd := (cast_is k i).trans (decide_eq_false hki)
      cases hin : innerB x
      · rw [if_pos (.inr (.inl hin))] at e1
        refine step_at (spS T a n m v2 v3 v4 y R i k) (by rw [← hT]) ?_ ?_ (Nat.le_refl 1)
        exact fun go out => [.b _ _ d, oJx poE 0 a n m h hlT, oJd poE 0 a n m hx hlT, .b (!_) _ (nb hd), .c _ _ _ (inner_any x), .b _ _ hin, No, .r _ _ (wrap_next h (by omega)), go (⟨k + 1, h⟩, y) hlt (spS T a n m v2 v3 v4 y R i (k + 1)) (by show _ = spS (sprTo (twoH t) i t (k + 1)) _ _ _ _ _ _ _ _ _ _; rw [e1])]
        intro _ _; kernel_rfl
      · cases hlk : linkB x
        · rw [if_pos (.inr (.inr hlk))] at e1
          refine step_at (spS T a n m v2 v3 v4 y R i k) (by rw [← hT]) ?_ ?_ (Nat.le_refl 1)
          exact fun go out => [.b _ _ d, oJx poE 0 a n m h hlT, oJd poE 0 a n m hx hlT, .b (!_) _ (nb hd), .c _ _ _ (inner_any x), .b _ _ hin, .c _ _ _ (linked_any x), .b _ _ hlk, .r _ _ (wrap_next h (by omega)), go (⟨k + 1, h⟩, y) hlt (spS T a n m v2 v3 v4 y R i (k + 1)) (by show _ = spS (sprTo (twoH t) i t (k + 1)) _ _ _ _ _ _ _ _ _ _; rw [e1])]
          intro _ _; kernel_rfl
        · rw [if_neg (by simp [hki, hin, hlk])] at e1
          refine step_at (spS T a n m v2 v3 v4 y R i k) (by rw [← hT]) ?_ ?_ (Nat.le_refl 1)
          exact fun go out => [.b _ _ d, oJx poE 0 a n m h hlT, oJd poE 0 a n m hx hlT, .b (!_) _ (nb hd), .c _ _ _ (inner_any x), .b _ _ hin, .c _ _ _ (linked_any x), .b _ _ hlk,
            oM (alert_acts hx ⟨a, n, m, v2, v3, v4⟩ y hlT) 0 0 fun y1 => [.r _ _ (wrap_i h (by omega)),
            oAp inE 45 2 2 #[false, false] (.slice y1.2.1 T.fl.length y1.2.2) T.fl [(k : Int) + 1] ((T.setPo (T.s.po.set k (chP x (twoH T)))).flush ((k : Int) + 1)).fl.length (by show _ = (T.fl ++ [_]).length; simp) (by show (T.fl ++ [_]).length ≤ _; simp; omega) fun y2 => [
            .r _ _ (wrap_next h (by omega)), go (⟨k + 1, h⟩, (y1.1, y2)) hlt (spS ((T.setPo (T.s.po.set k (chP x (twoH T)))).flush ((k : Int) + 1)) a n m v2 v3 v4 (y1.1, y2) R i (k + 1)) (by show _ = spS (sprTo (twoH t) i t (k + 1)) _ _ _ _ _ _ _ _ _ _; rw [e1, ht])]]]
          intro _ _; kernel_rfl
  · obtain rfl : k = n := by omega
    refine step_at _ rfl ?_ ?_ (Nat.le_refl 1)
    exact fun go out => [.b _ _ (show decide ((k : Int) < (k : Int)) = false by simp), out y _ rfl]
    intro _ _; kernel_rfl
end
theorem spread_acts {t : TS} {i : Nat} (hn : t.s.po.length ≤ 1000) (hf : t.fl.length + t.s.po.length ≤ 1900) : Acts 112 63 [iv (i : Nat)] t (spreadM t i) := by
  intro c y hl
  obtain ⟨a, n, m, v2, v3, v4⟩ := c
  have hl : t.s.po.length = n := hl
  subst hl
  exact ev_meth (fun R fin => [.l _ _ _ _ _ _ (spread_loop t a t.s.po.length m v2 v3 v4 y R i rfl hn hf) fun y1 => [fin y1]]) (fun R β w => by kernel_rfl)
section
variable (t : TS) (a : Option Addr) (n m : Nat) (v2 v3 v4 : Value) (y0 : H2) (R : Bd) (i : Nat)
theorem changed_loop (h0 : Int) (hh : twoH t = h0) (hl : t.s.po.length = n) (hn : n ≤ 1000) (hf : t.fl.length + n ≤ 1900) : TY Tryd.prog 1 (.loop (loopN Tryd.prog 59 0)) (chS2 t a n m v2 v3 v4 y0 R i 0) H2 (.exit 0) (fun y => chS2 (chgTo h0 i t n) a n m v2 v3 v4 y R i n) := by
  subst hh
  refine T_loop (I := {k : Nat // k ≤ n} × H2) (fun j => chS2 (chgTo (twoH t) i t j.1.1) a n m v2 v3 v4 j.2 R i j.1.1) (fun j => n - j.1.1) (by simp) _ (fun ⟨⟨k, hk⟩, y⟩ => ?_) (⟨0, Nat.zero_le _⟩, y0)
  have f := chgTo_is (twoH t) i t k
  have ht := twoH_cf f.2.1
  have e1 : chgTo (twoH t) i t (k + 1) = chgStep (twoH t) i (chgTo (twoH t) i t k) k := rfl
  by_cases h : k < n
  · obtain ⟨T, hT⟩ : ∃ T, chgTo (twoH t) i t k = T := ⟨_, rfl⟩
    rw [hT] at f ht e1
    have hlT : T.s.po.length = n := f.1.trans hl
    obtain ⟨x, hx⟩ : ∃ x, T.s.po[k]? = some x := ⟨_, List.getElem?_eq_getElem (by omega)⟩
    have d : decide ((k : Int) < (n : Int)) = true := by simp; omega
    have hlt : n - (k + 1) < n - k := by omega
    unfold chgStep at e1
    rw [hx] at e1
    dsimp only at e1
    by_cases hki : k = i
    · rw [if_pos (.inl hki)] at e1
      have hd := (cast_is k i).trans (decide_eq_true hki)
      refine step_at (chS2 T a n m v2 v3 v4 y R i k) (by rw [← hT]) ?_ ?_ (Nat.le_refl 1)
      exact fun go out => [.b _ _ d, oJx poE 0 a n m h hlT, oJd poE 0 a n m hx hlT, .b _ _ hd, Yes, .r _ _ (wrap_next h (by omega)), go (⟨k + 1, h⟩, y) hlt (chS2 T a n m v2 v3 v4 y R i (k + 1)) (by show _ = chS2 (chgTo (twoH t) i t (k + 1)) _ _ _ _ _ _ _ _ _ _; rw [e1])]
      intro _ _; kernel_rfl
    · have hd := (cast_is k i).trans (decide_eq_false hki)
      cases hin : innerB x
      · rw [if_pos (.inr hin)] at e1
        refine step_at (chS2 T a n m v2 v3 v4 y R i k) (by rw [← hT]) ?_ ?_ (Nat.le_refl 1)
        exact fun go out => [.b _ _ d, oJx poE 0 a n m h hlT, oJd poE 0 a n m hx hlT, .b _ _ hd, .c _ _ _ (inner_any x), .b (!_) _ (nb hin), .r _ _ (wrap_next h (by omega)), go (⟨k + 1, h⟩, y) hlt (chS2 T a n m v2 v3 v4 y R i (k + 1)) (by show _ = chS2 (chgTo (twoH t) i t (k + 1)) _ _ _ _ _ _ _ _ _ _; rw [e1])]
        intro _ _; kernel_rfl
      · rw [if_neg (by simp [hki, hin])] at e1
        cases hlk : linkB x
        · rw [hlk, if_neg (by decide)] at e1
          refine step_at (chS2 T a n m v2 v3 v4 y R i k) (by rw [← hT]) ?_ ?_ (Nat.le_refl 1)
          exact fun go out => [.b _ _ d, oJx poE 0 a n m h hlT, oJd poE 0 a n m hx hlT, .b _ _ hd, .c _ _ _ (inner_any x), .b (!_) _ (nb hin), .c _ _ _ (linked_any x), .b _ _ hlk, .r _ _ (wrap_i h (by omega)),
            oAp inE 45 2 2 #[false, false] (.slice y.2.1 T.fl.length y.2.2) T.fl [(k : Int) + 1] (T.flush ((k : Int) + 1)).fl.length (by show _ = (T.fl ++ [_]).length; simp) (by show (T.fl ++ [_]).length ≤ _; simp; omega) fun y2 => [
            .r _ _ (wrap_next h (by omega)), go (⟨k + 1, h⟩, (y.1, y2)) hlt (chS2 (T.flush ((k : Int) + 1)) a n m v2 v3 v4 (y.1, y2) R i (k + 1)) (by show _ = chS2 (chgTo (twoH t) i t (k + 1)) _ _ _ _ _ _ _ _ _ _; rw [e1])]]
          intro _ _; kernel_rfl
        · rw [hlk, if_pos rfl] at e1
          refine step_at (chS2 T a n m v2 v3 v4 y R i k) (by rw [← hT]) ?_ ?_ (Nat.le_refl 1)
          exact fun go out => [.b _ _ d, oJx poE 0 a n m h hlT, oJd poE 0 a n m hx hlT, .b _ _ hd, .c _ _ _ (inner_any x), .b (!_) _ (nb hin), .c _ _ _ (linked_any x), .b _ _ hlk,
            oM (alert_acts hx ⟨a, n, m, v2, v3, v4⟩ y hlT) 0 0 fun y1 => [.r _ _ (wrap_i h (by omega)),
            oAp inE 45 2 2 #[false, false] (.slice y1.2.1 T.fl.length y1.2.2) T.fl [(k : Int) + 1] ((T.setPo (T.s.po.set k (chP x (twoH T)))).flush ((k : Int) + 1)).fl.length (by show _ = (T.fl ++ [_]).length; simp) (by show (T.fl ++ [_]).length ≤ _; simp; omega) fun y2 => [
            .r _ _ (wrap_next h (by omega)), go (⟨k + 1, h⟩, (y1.1, y2)) hlt (chS2 ((T.setPo (T.s.po.set k (chP x (twoH T)))).flush ((k : Int) + 1)) a n m v2 v3 v4 (y1.1, y2) R i (k + 1)) (by show _ = chS2 (chgTo (twoH t) i t (k + 1)) _ _ _ _ _ _ _ _ _ _; rw [e1, ht])]]]
          intro _ _; kernel_rfl
  · obtain rfl : k = n := by omega
    refine step_at _ rfl ?_ ?_ (Nat.le_refl 1)
    exact fun go out => [.b _ _ (show decide ((k : Int) < (k : Int)) = false by simp), out y _ rfl]
    intro _ _; kernel_rfl
end
theorem changed_acts {t : TS} {i : Nat} {x : Po} (hx : t.s.po[i]? = some x) (hn : t.s.po.length ≤ 1000) (hf : t.fl.length + t.s.po.length ≤ 1900) : Acts 112 59 [iv (i : Nat)] t (changedM t i) := by
  intro c y hl
  obtain ⟨a, n, m, v2, v3, v4⟩ := c
  have hl : t.s.po.length = n := hl
  subst hl
  have hk := (List.getElem?_eq_some_iff.1 hx).1
  unfold changedM
  rw [hx]
  dsimp only
  cases he : edgeB x
  · rw [if_neg (by decide)]
    have ha := alert_acts hx ⟨a, t.s.po.length, m, v2, v3, v4⟩ y rfl
    have hlen : (t.s.po.set i (chP x (twoH t))).length = t.s.po.length := List.length_set
    obtain ⟨T, hT⟩ : ∃ T, t.setPo (t.s.po.set i (chP x (twoH t))) = T := ⟨_, rfl⟩
    have h1 : twoH T = twoH t := by rw [← hT]; rfl
    have h2 : T.s.po.length = t.s.po.length := by rw [← hT]; exact hlen
    have h3 : T.fl = t.fl := by rw [← hT]; rfl
    rw [hT] at ha ⊢
    exact ev_meth (fun R fin => [oJx poE 0 a t.s.po.length m hk rfl, oJd poE 0 a t.s.po.length m hx rfl, .c _ _ _ (edge_any x), .b _ _ he, oM ha 0 0 fun y1 => [.l _ _ _ _ _ _ (changed_loop T a t.s.po.length m v2 v3 v4 y1 R i (twoH t) h1 h2 hn (by rw [h3]; exact hf)) fun y2 => [fin y2]]]) (fun R β w => by kernel_rfl)
  · rw [if_pos rfl]
    exact ev_meth (fun R fin => [oJx poE 0 a t.s.po.length m hk rfl, oJd poE 0 a t.s.po.length m hx rfl, .c _ _ _ (edge_any x), .b _ _ he, fin y]) (fun R β w => by kernel_rfl)
end
section
/- Layer 18, by the evaluator: beat. -/
open Go.RowKit
open Ev
set_option maxRecDepth 100000
def topQ : Pd := ⟨0, true, false, false, false, false, false, 0, 0, 0, 0, 0, 0, 0, 0, 0⟩
def beatStep (t : TS) (k : Nat) : TS := match t.s.po[k]? with
 | some x => if onP x = true then (if x.p10 = 4 then tellM t k else if x.p10 = 3 ∧ 0 < x.p20 then sendM t k topQ else t) else t
 | none => t
def beatTo (t : TS) : Nat → TS
 | 0 => t
 | k + 1 => beatStep (beatTo t k) k
def beatM (t : TS) : TS := beatTo t t.s.po.length
theorem sendM_is (t : TS) (i : Nat) (q : Pd) : (sendM t i q).s = t.s ∧ (sendM t i q).fl = t.fl ∧ (sendM t i q).told.length ≤ t.told.length + 1 := by
 unfold sendM
 split
 ·
  refine ⟨rfl, rfl, ?_⟩
  show (t.told ++ [_]).length ≤ _
  simp
 ·
  exact ⟨rfl, rfl, Nat.le_succ _⟩
theorem tellM_is (t : TS) (i : Nat) : (tellM t i).s = t.s ∧ (tellM t i).fl = t.fl ∧ (tellM t i).told.length ≤ t.told.length + 1 := by
 unfold tellM
 split
 ·
  exact sendM_is _ _ _
 ·
  exact ⟨rfl, rfl, Nat.le_succ _⟩
theorem beatStep_is (t : TS) (i : Nat) : (beatStep t i).s = t.s ∧ (beatStep t i).fl = t.fl ∧ (beatStep t i).told.length ≤ t.told.length + 1 := by
 unfold beatStep
 split
 ·
  split
  ·
   split
   ·
    exact tellM_is _ _
   ·
    split
    ·
     exact sendM_is _ _ _
    ·
     exact ⟨rfl, rfl, Nat.le_succ _⟩
  ·
   exact ⟨rfl, rfl, Nat.le_succ _⟩
 ·
  exact ⟨rfl, rfl, Nat.le_succ _⟩
theorem beatTo_is (t : TS) : ∀ k, (beatTo t k).s = t.s ∧ (beatTo t k).fl = t.fl ∧ (beatTo t k).told.length ≤ t.told.length + k
 | 0 => ⟨rfl, rfl, Nat.le_refl _⟩
 | k + 1 => by
  have a := beatTo_is t k
  have b := beatStep_is (beatTo t k) k
  exact ⟨b.1.trans a.1, b.2.1.trans a.2.1, by have := a.2.2; have := b.2.2; show (beatStep (beatTo t k) k).told.length ≤ _; omega⟩
/-- A round over the ports: of a function of N slots, its list from slot hs on. -/
def frS (N : Nat) (ex : List (Nat × SV)) (hs : Nat) (T : TS) (a : Option Addr) (n m : Nat) (v2 v3 v4 : Value) (y : H2) (R : Bd) (k : Nat) : Ev.St :=
  ⟨sp N (ex ++ [(hs, .v (.slice a n m)), (hs + 1, .v (iv (n : Nat))), (hs + 2, .v (iv (k : Nat)))]), [(acA T ⟨a, n, m, v2, v3, v4⟩ y, 112)], acO T ⟨a, n, m, v2, v3, v4⟩ y ++ [R]⟩
/-- The ports' roles are roles. -/
def rolesB (l : List Po) : Prop := ∀ (k : Nat) (x : Po), l[k]? = some x → 0 ≤ x.p10 ∧ x.p10 ≤ 4
section
variable (t : TS) (a : Option Addr) (n m : Nat) (v2 v3 v4 : Value) (y0 : H2) (R : Bd)
abbrev btS := frS 40 [(0, .p 0 0)] 8
theorem beat_loop (hl : t.s.po.length = n) (hn : n ≤ 1000) (ht : t.told.length + n ≤ 1900) (hr : rolesB t.s.po) : TY Tryd.prog 1 (.loop (loopN Tryd.prog 36 0)) (btS t a n m v2 v3 v4 y0 R 0) H2 (.exit 0) (fun y => btS (beatTo t n) a n m v2 v3 v4 y R n) := by
  refine T_loop (I := {k : Nat // k ≤ n} × H2) (fun j => btS (beatTo t j.1.1) a n m v2 v3 v4 j.2 R j.1.1) (fun j => n - j.1.1) (by simp) _ (fun ⟨⟨k, hk⟩, y⟩ => ?_) (⟨0, Nat.zero_le _⟩, y0)
  have f := beatTo_is t k
  have e1 : beatTo t (k + 1) = beatStep (beatTo t k) k := rfl
  by_cases h : k < n
  · obtain ⟨T, hT⟩ : ∃ T, beatTo t k = T := ⟨_, rfl⟩
    rw [hT] at f e1
    have hlT : T.s.po.length = n := by rw [f.1]; exact hl
    obtain ⟨x, hx⟩ : ∃ x, T.s.po[k]? = some x := ⟨_, List.getElem?_eq_getElem (by omega)⟩
    have hrx := hr k x (by rw [← f.1]; exact hx)
    have d : decide ((k : Int) < (n : Int)) = true := by simp; omega
    have hlt : n - (k + 1) < n - k := by omega
    unfold beatStep at e1
    rw [hx] at e1
    dsimp only at e1
    cases ho : onP x
    · rw [ho, if_neg (by decide)] at e1
      refine step_at (btS T a n m v2 v3 v4 y R k) (by rw [← hT]) ?_ ?_ (Nat.le_refl 1)
      exact fun go out => [.b _ _ d, oJx poE 0 a n m h hlT, oJd poE 0 a n m hx hlT, .c _ _ _ (on_any x), .b (!_) _ (nb ho), .r _ _ (wrap_next h (by omega)), go (⟨k + 1, h⟩, y) hlt (btS T a n m v2 v3 v4 y R (k + 1)) (by show _ = btS (beatTo t (k + 1)) _ _ _ _ _ _ _ _ _; rw [e1])]
      intro _ _; kernel_rfl
    rw [ho, if_pos rfl] at e1
    by_cases h4 : x.p10 = 4
    · rw [if_pos h4] at e1
      have ha := tell_acts hx hrx (by omega) (by omega) ⟨a, n, m, v2, v3, v4⟩ y hlT
      obtain ⟨T2, hT2⟩ : ∃ T2, tellM T k = T2 := ⟨_, rfl⟩
      rw [hT2] at e1 ha
      refine step_at (btS T a n m v2 v3 v4 y R k) (by rw [← hT]) ?_ ?_ (Nat.le_refl 1)
      exact fun go out => [.b _ _ d, oJx poE 0 a n m h hlT, oJd poE 0 a n m hx hlT, .c _ _ _ (on_any x), .b (!_) _ (nb ho), .b _ _ (decide_eq_true h4), oM ha 0 0 fun y1 => [.r _ _ (wrap_next h (by omega)), go (⟨k + 1, h⟩, y1) hlt (btS T2 a n m v2 v3 v4 y1 R (k + 1)) (by show _ = btS (beatTo t (k + 1)) _ _ _ _ _ _ _ _ _; rw [e1])]]
      intro _ _; kernel_rfl
    rw [if_neg h4] at e1
    by_cases h3 : x.p10 = 3
    · by_cases hc : 0 < x.p20
      · rw [if_pos ⟨h3, hc⟩] at e1
        have ha := send_acts topQ hx hrx (by omega) (by omega) ⟨a, n, m, v2, v3, v4⟩ y hlT
        obtain ⟨T2, hT2⟩ : ∃ T2, sendM T k topQ = T2 := ⟨_, rfl⟩
        rw [hT2] at e1 ha
        refine step_at (btS T a n m v2 v3 v4 y R k) (by rw [← hT]) ?_ ?_ (Nat.le_refl 1)
        exact fun go out => [.b _ _ d, oJx poE 0 a n m h hlT, oJd poE 0 a n m hx hlT, .c _ _ _ (on_any x), .b (!_) _ (nb ho), .b _ _ (decide_eq_false h4), .b _ _ (decide_eq_true h3), .b _ _ (decide_eq_true hc), oM ha 0 0 fun y1 => [.r _ _ (wrap_next h (by omega)), go (⟨k + 1, h⟩, y1) hlt (btS T2 a n m v2 v3 v4 y1 R (k + 1)) (by show _ = btS (beatTo t (k + 1)) _ _ _ _ _ _ _ _ _; rw [e1])]]
        intro _ _; kernel_rfl
      · rw [if_neg (fun q => hc q.2)] at e1
        refine step_at (btS T a n m v2 v3 v4 y R k) (by rw [← hT]) ?_ ?_ (Nat.le_refl 1)
        exact fun go out => [.b _ _ d, oJx poE 0 a n m h hlT, oJd poE 0 a n m hx hlT, .c _ _ _ (on_any x), .b (!_) _ (nb ho), .b _ _ (decide_eq_false h4), .b _ _ (decide_eq_true h3), .b _ _ (decide_eq_false hc), .r _ _ (wrap_next h (by omega)), go (⟨k + 1, h⟩, y) hlt (btS T a n m v2 v3 v4 y R (k + 1)) (by show _ = btS (beatTo t (k + 1)) _ _ _ _ _ _ _ _ _; rw [e1])]
        intro _ _; kernel_rfl
    · rw [if_neg (fun q => h3 q.1)] at e1
      refine step_at (btS T a n m v2 v3 v4 y R k) (by rw [← hT]) ?_ ?_ (Nat.le_refl 1)
      exact fun go out => [.b _ _ d, oJx poE 0 a n m h hlT, oJd poE 0 a n m hx hlT, .c _ _ _ (on_any x), .b (!_) _ (nb ho), .b _ _ (decide_eq_false h4), .b _ _ (decide_eq_false h3), No, .r _ _ (wrap_next h (by omega)), go (⟨k + 1, h⟩, y) hlt (btS T a n m v2 v3 v4 y R (k + 1)) (by show _ = btS (beatTo t (k + 1)) _ _ _ _ _ _ _ _ _; rw [e1])]
      intro _ _; kernel_rfl
  · obtain rfl : k = n := by omega
    refine step_at _ rfl ?_ ?_ (Nat.le_refl 1)
    exact fun go out => [.b _ _ (show decide ((k : Int) < (k : Int)) = false by simp), out y _ rfl]
    intro _ _; kernel_rfl
end
theorem beat_acts {t : TS} (hn : t.s.po.length ≤ 1000) (ht : t.told.length + t.s.po.length ≤ 1900) (hr : rolesB t.s.po) : Acts 112 36 [] t (beatM t) := by
  intro c y hl
  obtain ⟨a, n, m, v2, v3, v4⟩ := c
  have hl : t.s.po.length = n := hl
  subst hl
  exact ev_meth (fun R fin => [.l _ _ _ _ _ _ (beat_loop t a t.s.po.length m v2 v3 v4 y R rfl hn ht hr) fun y1 => [fin y1]]) (fun R β w => by kernel_rfl)
end
section
/- Layer 18, by the evaluator: fade, answer. -/
open Go.RowKit
open Ev
set_option maxRecDepth 100000
def mapStep (f : Nat → Po → Po) (t : TS) (k : Nat) : TS := match t.s.po[k]? with
 | some x => t.setPo (t.s.po.set k (f k x))
 | none => t
def mapTo (f : Nat → Po → Po) (t : TS) : Nat → TS
 | 0 => t
 | k + 1 => mapStep f (mapTo f t k) k
theorem mapStep_some {f : Nat → Po → Po} {t : TS} {k : Nat} {x : Po} (h : t.s.po[k]? = some x) : mapStep f t k = t.setPo (t.s.po.set k (f k x)) := by
 unfold mapStep
 rw [h]
theorem mapStep_is (f : Nat → Po → Po) (t : TS) (k : Nat) : (mapStep f t k).s.po.length = t.s.po.length ∧ (mapStep f t k).s.cf = t.s.cf ∧ (mapStep f t k).fl = t.fl ∧ (mapStep f t k).told = t.told := by
 unfold mapStep
 split
 ·
  refine ⟨?_, rfl, rfl, rfl⟩
  show (t.s.po.set k _).length = _
  rw [List.length_set]
 ·
  exact ⟨rfl, rfl, rfl, rfl⟩
theorem mapTo_is (f : Nat → Po → Po) (t : TS) : ∀ k, (mapTo f t k).s.po.length = t.s.po.length ∧ (mapTo f t k).s.cf = t.s.cf ∧ (mapTo f t k).fl = t.fl ∧ (mapTo f t k).told = t.told
 | 0 => ⟨rfl, rfl, rfl, rfl⟩
 | k + 1 => by
  have a := mapTo_is f t k
  have b := mapStep_is f (mapTo f t k) k
  exact ⟨b.1.trans a.1, b.2.1.trans a.2.1, b.2.2.1.trans a.2.2.1, b.2.2.2.trans a.2.2.2⟩
theorem mapTo_get (f : Nat → Po → Po) (t : TS) (j : Nat) : ∀ k, (mapTo f t k).s.po[j]? = if j < k then (t.s.po[j]?).map (f j) else t.s.po[j]?
 | 0 => by rw [if_neg (Nat.not_lt_zero _)]; rfl
 | k + 1 => by
  have a := mapTo_get f t j k
  show (mapStep f (mapTo f t k) k).s.po[j]? = _
  cases c : (mapTo f t k).s.po[k]? with
  | none =>
   unfold mapStep
   rw [c]
   show (mapTo f t k).s.po[j]? = _
   rw [a]
   by_cases e : j = k
   ·
    subst e
    rw [if_neg (Nat.lt_irrefl _)] at a ⊢
    rw [c] at a
    rw [if_pos (Nat.lt_succ_self _), ← a]
    rfl
   ·
    by_cases q : j < k
    ·
     rw [if_pos q, if_pos (by omega)]
    ·
     rw [if_neg q, if_neg (by omega)]
  | some x =>
   rw [mapStep_some c]
   show ((mapTo f t k).s.po.set k (f k x))[j]? = _
   by_cases e : j = k
   ·
    subst e
    have hl : j < (mapTo f t j).s.po.length := (List.getElem?_eq_some_iff.1 c).1
    rw [List.getElem?_set_self hl, if_pos (Nat.lt_succ_self _)]
    rw [if_neg (Nat.lt_irrefl _), c] at a
    rw [← a]
    rfl
   ·
    rw [List.getElem?_set_ne (fun h => e h.symm), a]
    by_cases q : j < k
    ·
     rw [if_pos q, if_pos (by omega)]
    ·
     rw [if_neg q, if_neg (by omega)]
theorem set_same {l : List Po} {k : Nat} {x : Po} (h : l[k]? = some x) : l.set k x = l := by
 refine List.ext_getElem? fun j => ?_
 by_cases e : k = j
 ·
  subst e
  rw [List.getElem?_set_self (List.getElem?_eq_some_iff.1 h).1, h]
 ·
  rw [List.getElem?_set_ne e]
def tick1 (x : Po) : Po := if 0 < x.p20 then { x with p20 := IntKind.i64.wrap (x.p20 - 1) } else x
def fadeM (t : TS) : TS := mapTo (fun _ x => tick1 (fadeP x)) t t.s.po.length
def agrQ : Pd := ⟨0, false, false, false, false, true, false, 0, 0, 0, 0, 0, 0, 0, 0, 0⟩
def blkF (i : Nat) (dl : Int) (k : Nat) (x : Po) : Po := if k = i then x else blockP x dl
def answerM (t : TS) (i : Nat) : TS := match t.s.po[i]? with
 | some x => if x.p10 = 3 ∨ x.p10 = 1 ∨ x.p10 = 2 then sendM (mapTo (blkF i t.s.cf.p3) t t.s.po.length) i agrQ else t
 | none => t
section
variable (t : TS) (a : Option Addr) (n m : Nat) (v2 v3 v4 : Value) (y : H2) (R : Bd) (i : Nat)
abbrev fdS := frS 36 [(0, .p 0 0)] 8
theorem fade_loop (hl : t.s.po.length = n) (hn : n ≤ 1000) : TY Tryd.prog 1 (.loop (loopN Tryd.prog 34 0)) (fdS t a n m v2 v3 v4 y R 0) Unit (.exit 0) (fun _ => fdS (mapTo (fun _ x => tick1 (fadeP x)) t n) a n m v2 v3 v4 y R n) := by
  refine T_loop (I := {k : Nat // k ≤ n}) (fun j => fdS (mapTo (fun _ x => tick1 (fadeP x)) t j.1) a n m v2 v3 v4 y R j.1) (fun j => n - j.1) (by simp) _ (fun ⟨k, hk⟩ => ?_) ⟨0, Nat.zero_le _⟩
  have f := mapTo_is (fun _ x => tick1 (fadeP x)) t k
  have e1 : mapTo (fun _ x => tick1 (fadeP x)) t (k + 1) = mapStep (fun _ x => tick1 (fadeP x)) (mapTo (fun _ x => tick1 (fadeP x)) t k) k := rfl
  by_cases h : k < n
  · obtain ⟨T, hT⟩ : ∃ T, mapTo (fun _ x => tick1 (fadeP x)) t k = T := ⟨_, rfl⟩
    rw [hT] at f e1
    have hlT : T.s.po.length = n := f.1.trans hl
    obtain ⟨x, hx⟩ : ∃ x, T.s.po[k]? = some x := ⟨_, List.getElem?_eq_getElem (by omega)⟩
    have d : decide ((k : Int) < (n : Int)) = true := by simp; omega
    have hlt : n - (k + 1) < n - k := by omega
    rw [mapStep_some hx] at e1
    unfold tick1 at e1
    by_cases hc : 0 < (fadeP x).p20
    · simp only [if_pos hc] at e1
      refine step_at (fdS T a n m v2 v3 v4 y R k) (by rw [← hT]) ?_ ?_ (Nat.le_refl 1)
      exact fun go out => [.b _ _ d, oJx poE 0 a n m h hlT, oJd poE 0 a n m hx hlT, .c _ _ _ (fade_any x), .b _ _ (decide_eq_true hc), .k, oJx poE 0 a n m h hlT, oJt poE 0 a n m { fadeP x with p20 := IntKind.i64.wrap ((fadeP x).p20 - 1) } h hlT rfl, .r _ _ (wrap_next h (by omega)), go ⟨k + 1, h⟩ hlt (fdS (T.setPo (T.s.po.set k { fadeP x with p20 := IntKind.i64.wrap ((fadeP x).p20 - 1) })) a n m v2 v3 v4 y R (k + 1)) (by show _ = fdS (mapTo (fun _ x => tick1 (fadeP x)) t (k + 1)) _ _ _ _ _ _ _ _ _; unfold tick1; rw [e1])]
      intro _ _; kernel_rfl
    · simp only [if_neg hc] at e1
      refine step_at (fdS T a n m v2 v3 v4 y R k) (by rw [← hT]) ?_ ?_ (Nat.le_refl 1)
      exact fun go out => [.b _ _ d, oJx poE 0 a n m h hlT, oJd poE 0 a n m hx hlT, .c _ _ _ (fade_any x), .b _ _ (decide_eq_false hc), oJx poE 0 a n m h hlT, oJt poE 0 a n m (fadeP x) h hlT rfl, .r _ _ (wrap_next h (by omega)), go ⟨k + 1, h⟩ hlt (fdS (T.setPo (T.s.po.set k (fadeP x))) a n m v2 v3 v4 y R (k + 1)) (by show _ = fdS (mapTo (fun _ x => tick1 (fadeP x)) t (k + 1)) _ _ _ _ _ _ _ _ _; unfold tick1; rw [e1])]
      intro _ _; kernel_rfl
  · obtain rfl : k = n := by omega
    refine step_at _ rfl ?_ ?_ (Nat.le_refl 1)
    exact fun go out => [.b _ _ (show decide ((k : Int) < (k : Int)) = false by simp), out () _ rfl]
    intro _ _; kernel_rfl
abbrev anS := frS 52 [(0, .p 0 0), (1, .v (iv (i : Nat)))] 23
theorem answer_loop (hl : t.s.po.length = n) (hn : n ≤ 1000) : TY Tryd.prog 1 (.loop (loopN Tryd.prog 79 0)) (anS i t a n m v2 v3 v4 y R 0) Unit (.exit 1) (fun _ => anS i (mapTo (blkF i t.s.cf.p3) t n) a n m v2 v3 v4 y R n) := by
  refine T_loop (I := {k : Nat // k ≤ n}) (fun j => anS i (mapTo (blkF i t.s.cf.p3) t j.1) a n m v2 v3 v4 y R j.1) (fun j => n - j.1) (by simp) _ (fun ⟨k, hk⟩ => ?_) ⟨0, Nat.zero_le _⟩
  have f := mapTo_is (blkF i t.s.cf.p3) t k
  have e1 : mapTo (blkF i t.s.cf.p3) t (k + 1) = mapStep (blkF i t.s.cf.p3) (mapTo (blkF i t.s.cf.p3) t k) k := rfl
  by_cases h : k < n
  · obtain ⟨T, hT⟩ : ∃ T, mapTo (blkF i t.s.cf.p3) t k = T := ⟨_, rfl⟩
    rw [hT] at f e1
    have hlT : T.s.po.length = n := f.1.trans hl
    obtain ⟨x, hx⟩ : ∃ x, T.s.po[k]? = some x := ⟨_, List.getElem?_eq_getElem (by omega)⟩
    have d : decide ((k : Int) < (n : Int)) = true := by simp; omega
    have hlt : n - (k + 1) < n - k := by omega
    rw [mapStep_some hx] at e1
    unfold blkF at e1
    by_cases hki : k = i
    · simp only [if_pos hki] at e1
      rw [set_same hx] at e1
      have hd := (cast_is k i).trans (decide_eq_true hki)
      refine step_at (anS i T a n m v2 v3 v4 y R k) (by rw [← hT]) ?_ ?_ (Nat.le_refl 1)
      exact fun go out => [.b _ _ d, oJx poE 0 a n m h hlT, oJd poE 0 a n m hx hlT, .b (!_) _ (nb hd), .r _ _ (wrap_next h (by omega)), go ⟨k + 1, h⟩ hlt (anS i T a n m v2 v3 v4 y R (k + 1)) (by show _ = anS i (mapTo (blkF i t.s.cf.p3) t (k + 1)) _ _ _ _ _ _ _ _ _; unfold blkF; rw [e1]; rfl)]
      intro _ _; kernel_rfl
    · simp only [if_neg hki] at e1
      have hd := (cast_is k i).trans (decide_eq_false hki)
      refine step_at (anS i T a n m v2 v3 v4 y R k) (by rw [← hT]) ?_ ?_ (Nat.le_refl 1)
      exact fun go out => [.b _ _ d, oJx poE 0 a n m h hlT, oJd poE 0 a n m hx hlT, .b (!_) _ (nb hd), .c _ _ _ (block_any x T.s.cf), oJx poE 0 a n m h hlT, oJt poE 0 a n m (blockP x T.s.cf.p3) h hlT rfl, .r _ _ (wrap_next h (by omega)), go ⟨k + 1, h⟩ hlt (anS i (T.setPo (T.s.po.set k (blockP x T.s.cf.p3))) a n m v2 v3 v4 y R (k + 1)) (by show _ = anS i (mapTo (blkF i t.s.cf.p3) t (k + 1)) _ _ _ _ _ _ _ _ _; unfold blkF; rw [e1, f.2.1])]
      intro _ _; kernel_rfl
  · obtain rfl : k = n := by omega
    refine step_at _ rfl ?_ ?_ (Nat.le_refl 1)
    exact fun go out => [.b _ _ (show decide ((k : Int) < (k : Int)) = false by simp), out () _ rfl]
    intro _ _; kernel_rfl
end
theorem fade_acts {t : TS} (hn : t.s.po.length ≤ 1000) : Acts 112 34 [] t (fadeM t) := by
  intro c y hl
  obtain ⟨a, n, m, v2, v3, v4⟩ := c
  have hl : t.s.po.length = n := hl
  subst hl
  have e1 : (fadeM t).told = t.told := (mapTo_is _ _ _).2.2.2
  have e2 : (fadeM t).fl = t.fl := (mapTo_is _ _ _).2.2.1
  exact ev_meth (fun R fin => [.l _ _ _ _ _ _ (fade_loop t a t.s.po.length m v2 v3 v4 y R rfl hn) fun _ => [fin y]]) (fun R β w => by kernel_rfl)
theorem answer_acts {t : TS} {i : Nat} {x : Po} (hx : t.s.po[i]? = some x) (hr : 0 ≤ x.p10 ∧ x.p10 ≤ 4) (hn : t.s.po.length ≤ 1000) (ht : t.told.length ≤ 1900) : Acts 112 79 [iv (i : Nat)] t (answerM t i) := by
  intro c y hl
  obtain ⟨a, n, m, v2, v3, v4⟩ := c
  have hl : t.s.po.length = n := hl
  subst hl
  have hk := (List.getElem?_eq_some_iff.1 hx).1
  refine Meth_own (k := i) 0 rfl hk fun ⟨g, hg⟩ => ?_
  subst hg
  unfold answerM
  rw [hx]
  dsimp only
  by_cases hc : x.p10 = 3 ∨ x.p10 = 1 ∨ x.p10 = 2
  · rw [if_pos hc]
    have f := mapTo_is (blkF i t.s.cf.p3) t t.s.po.length
    have hx2 : (mapTo (blkF i t.s.cf.p3) t t.s.po.length).s.po[i]? = some x := by
      rw [mapTo_get, if_pos hk, hx]
      show some (blkF _ _ _ _) = _
      unfold blkF
      rw [if_pos rfl]
    have ha := send_acts agrQ hx2 hr (by rw [f.1]; exact hn) (by rw [f.2.2.2]; exact ht) ⟨some ⟨g, 0, none⟩, t.s.po.length, m, v2, v3, v4⟩ y f.1
    by_cases h3 : x.p10 = 3
    · exact ev_meth (fun R fin => [oIx poE g t.s.po.length m hk, oLf poE 0 g t.s.po.length m 3 10 (iv x.p10) hx rfl (by decide) rfl plain3, .b _ _ (decide_eq_true h3), Yes, .l _ _ _ _ _ _ (answer_loop t (some ⟨g, 0, none⟩) t.s.po.length m v2 v3 v4 y R i rfl hn) fun _ => [oM ha 0 0 fun y1 => [fin y1]]]) (fun R β w => by kernel_rfl)
    by_cases h1 : x.p10 = 1
    · exact ev_meth (fun R fin => [oIx poE g t.s.po.length m hk, oLf poE 0 g t.s.po.length m 3 10 (iv x.p10) hx rfl (by decide) rfl plain3, .b _ _ (decide_eq_false h3), .b _ _ (decide_eq_true h1), Yes, .l _ _ _ _ _ _ (answer_loop t (some ⟨g, 0, none⟩) t.s.po.length m v2 v3 v4 y R i rfl hn) fun _ => [oM ha 0 0 fun y1 => [fin y1]]]) (fun R β w => by kernel_rfl)
    have h2 : x.p10 = 2 := by omega
    exact ev_meth (fun R fin => [oIx poE g t.s.po.length m hk, oLf poE 0 g t.s.po.length m 3 10 (iv x.p10) hx rfl (by decide) rfl plain3, .b _ _ (decide_eq_false h3), .b _ _ (decide_eq_false h1), .b _ _ (decide_eq_true h2), .l _ _ _ _ _ _ (answer_loop t (some ⟨g, 0, none⟩) t.s.po.length m v2 v3 v4 y R i rfl hn) fun _ => [oM ha 0 0 fun y1 => [fin y1]]]) (fun R β w => by kernel_rfl)
  · rw [if_neg hc]
    have h3 : ¬ x.p10 = 3 := by omega
    have h1 : ¬ x.p10 = 1 := by omega
    have h2 : ¬ x.p10 = 2 := by omega
    exact ev_meth (fun R fin => [oIx poE g t.s.po.length m hk, oLf poE 0 g t.s.po.length m 3 10 (iv x.p10) hx rfl (by decide) rfl plain3, .b _ _ (decide_eq_false h3), .b _ _ (decide_eq_false h1), .b _ _ (decide_eq_false h2), fin y]) (fun R β w => by kernel_rfl)
end
section
/- Layer 18, by the evaluator: agree. -/
open Go.RowKit
open Ev
set_option maxRecDepth 100000
def pdU (q : Pd) (v : Vc) : Pd := { q with p8 := (v.r : Nat), p9 := (v.c : Nat), p10 := (v.b : Nat), p11 := (v.p : Nat) }
def hasV (x : Po) (v : Vc) : Prop := x.p13 = (v.r : Int) ∧ x.p14 = (v.c : Int) ∧ x.p15 = (v.b : Int) ∧ x.p16 = (v.p : Int)
instance (x : Po) (v : Vc) : Decidable (hasV x v) := by unfold hasV; infer_instance
def agreeM (t : TS) (i : Nat) (q : Pd) (v : Vc) : TS := match t.s.po[i]? with
 | some x => if q.p5 = true ∧ x.p10 = 4 ∧ hasV x v then (if openedB x (agreeP x) = true then changedM (t.setPo (t.s.po.set i (agreeP x))) i else t.setPo (t.s.po.set i (agreeP x))) else t
 | none => t
theorem poU_eq (x : Po) (u v : Vc) : hasV (poU x u) v ↔ eqV v u = true := by
 constructor
 ·
  rintro ⟨h1, h2, h3, h4⟩
  have h1 : (u.r : Int) = v.r := h1
  have h2 : (u.c : Int) = v.c := h2
  have h3 : (u.b : Int) = v.b := h3
  have h4 : (u.p : Int) = v.p := h4
  simp [eqV]
  omega
 ·
  intro h
  simp [eqV] at h
  obtain ⟨⟨⟨a, b⟩, c⟩, d⟩ := h
  exact ⟨by show (u.r : Int) = v.r; rw [a], by show (u.c : Int) = v.c; rw [b], by show (u.b : Int) = v.b; rw [c], by show (u.p : Int) = v.p; rw [d]⟩
theorem told_pd (q : Pd) (v : Vc) (w : World) : Calls Tryd.prog 78 #[pdV (pdU q v)] w fun e w' => e = .returned (vcV v) ∧ Below w.heap.size w w' :=
  ev_call [] (fun _ _ => by kernel_rfl) w
theorem agree_acts {t : TS} {i : Nat} {x : Po} {u : Vc} (q : Pd) (v : Vc) (hx : t.s.po[i]? = some (poU x u)) (hn : t.s.po.length ≤ 1000) (hf : t.fl.length + t.s.po.length ≤ 1900) : Acts 112 64 [iv (i : Nat), pdV (pdU q v)] t (agreeM t i q v) := by
  intro c y hl
  obtain ⟨a, n, m, v2, v3, v4⟩ := c
  have hl : t.s.po.length = n := hl
  subst hl
  have hk := (List.getElem?_eq_some_iff.1 hx).1
  unfold agreeM
  rw [hx]
  dsimp only
  cases h5 : q.p5
  · rw [if_neg (by simp)]
    exact ev_meth (fun R fin => [oJx poE 0 a t.s.po.length m hk rfl, oJd poE 0 a t.s.po.length m hx rfl, .b (!_) _ (nb h5), Yes, Yes, fin y]) (fun R β w => by kernel_rfl)
  by_cases h4 : x.p10 = 4
  · have d4 := decide_eq_true h4
    cases he : eqV v u
    · rw [if_neg (fun z => by have := (poU_eq x u v).1 z.2.2; rw [he] at this; cases this)]
      exact ev_meth (fun R fin => [oJx poE 0 a t.s.po.length m hk rfl, oJd poE 0 a t.s.po.length m hx rfl, .b (!_) _ (nb h5), .b (!_) _ (nb d4), .c _ _ _ (told_pd q v), .q _ _ _ _ _ (q_neq (equal_vc v u)), .b (!_) _ (nb he), fin y]) (fun R β w => by kernel_rfl)
    · rw [if_pos ⟨rfl, h4, (poU_eq x u v).2 he⟩]
      cases hop : openedB (poU x u) (agreeP (poU x u))
      · rw [if_neg (by decide)]
        exact ev_meth (fun R fin => [oJx poE 0 a t.s.po.length m hk rfl, oJd poE 0 a t.s.po.length m hx rfl, .b (!_) _ (nb h5), .b (!_) _ (nb d4), .c _ _ _ (told_pd q v), .q _ _ _ _ _ (q_neq (equal_vc v u)), .b (!_) _ (nb he), .c _ _ _ (agree_any (poU x u)),
          oJx poE 0 a t.s.po.length m hk rfl, oJt poE 0 a t.s.po.length m (agreeP (poU x u)) hk rfl rfl, .b _ _ hop, fin y]) (fun R β w => by kernel_rfl)
      · rw [if_pos rfl]
        have hlen : (t.s.po.set i (agreeP (poU x u))).length = t.s.po.length := List.length_set
        have hx1 : (t.setPo (t.s.po.set i (agreeP (poU x u)))).s.po[i]? = some (agreeP (poU x u)) := List.getElem?_set_self hk
        have ha := changed_acts hx1 (by rw [show (t.setPo (t.s.po.set i (agreeP (poU x u)))).s.po.length = _ from hlen]; exact hn) (by rw [show (t.setPo (t.s.po.set i (agreeP (poU x u)))).s.po.length = _ from hlen]; exact hf) ⟨a, t.s.po.length, m, v2, v3, v4⟩ y hlen
        exact ev_meth (fun R fin => [oJx poE 0 a t.s.po.length m hk rfl, oJd poE 0 a t.s.po.length m hx rfl, .b (!_) _ (nb h5), .b (!_) _ (nb d4), .c _ _ _ (told_pd q v), .q _ _ _ _ _ (q_neq (equal_vc v u)), .b (!_) _ (nb he), .c _ _ _ (agree_any (poU x u)),
          oJx poE 0 a t.s.po.length m hk rfl, oJt poE 0 a t.s.po.length m (agreeP (poU x u)) hk rfl rfl, .b _ _ hop, oM ha 0 0 fun y1 => [fin y1]]) (fun R β w => by kernel_rfl)
  · have d4 := decide_eq_false h4
    rw [if_neg (fun z => h4 z.2.1)]
    exact ev_meth (fun R fin => [oJx poE 0 a t.s.po.length m hk rfl, oJd poE 0 a t.s.po.length m hx rfl, .b (!_) _ (nb h5), .b (!_) _ (nb d4), Yes, fin y]) (fun R β w => by kernel_rfl)
end
end Go.Proofs.YtebnpblincgjlaaDoor
