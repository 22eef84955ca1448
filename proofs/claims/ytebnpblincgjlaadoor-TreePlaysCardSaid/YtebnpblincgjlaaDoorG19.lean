import Derived.Test.YtebnpblincgjlaaDoorG18
set_option linter.unusedSimpArgs false
set_option linter.unusedVariables false
namespace Go.Proofs.YtebnpblincgjlaaDoor
section
/- Layer 18's law: the twin's choose, its end. -/
open Go.RowKit
open Ev
set_option maxRecDepth 100000
/-- A port's state is a state. -/
def stB (l : List Po) : Prop := ∀ (k : Nat) (x : Po), l[k]? = some x → 0 ≤ x.p11 ∧ x.p11 ≤ 2
section
variable (a : Option Addr) (n m : Nat) (v2 v3 v4 : Value) (R : Bd) (b6 b7 Ro C : Nat) (P : Int) (h : Hd) (z : H2) (rp : List Rp) (rl : List Int) (tl : List Vc) (f6 f7 : Nat → Bool)
theorem forTell_is (p : Nat → Bool) (t1 : TS) : ∀ k, (forTo tellM p t1 k).s = t1.s ∧ (forTo tellM p t1 k).fl = t1.fl ∧ (forTo tellM p t1 k).told.length ≤ t1.told.length + k
  | 0 => ⟨rfl, rfl, Nat.le_refl _⟩
  | k + 1 => by
    obtain ⟨a, b, c⟩ := forTell_is p t1 k
    show (if p k = true then tellM (forTo tellM p t1 k) k else forTo tellM p t1 k).s = _ ∧ (if p k = true then tellM (forTo tellM p t1 k) k else forTo tellM p t1 k).fl = _ ∧ (if p k = true then tellM (forTo tellM p t1 k) k else forTo tellM p t1 k).told.length ≤ _
    have hc := tellM_is (forTo tellM p t1 k) k
    split
    · exact ⟨hc.1.trans a, hc.2.1.trans b, by have := hc.2.2; omega⟩
    · exact ⟨a, b, by omega⟩
theorem u_tell (t1 : TS) (y0 : H2) (hl : t1.s.po.length = n) (hn : n ≤ 16) (hf : t1.told.length + n ≤ 1900) (h4 : ∀ k x, f6 k = true → t1.s.po[k]? = some x → x.p10 = 4) (hs : stB t1.s.po) :
    TY Tryd.prog 1 (.loop (loopN Tryd.prog 33 3)) (u1S a n m v2 v3 v4 R b6 b7 Ro C P h z rp rl tl f6 f7 [(13, .v (iv (0 : Nat)))] n t1 y0) H2 (.exit 6) (fun y => u1S a n m v2 v3 v4 R b6 b7 Ro C P h z rp rl tl f6 f7 [(13, .v (iv (n : Nat)))] n (forTo tellM f6 t1 n) y) := by
  refine T_loop (I := {k : Nat // k ≤ n} × H2) (fun j => u1S a n m v2 v3 v4 R b6 b7 Ro C P h z rp rl tl f6 f7 [(13, .v (iv (j.1.1 : Nat)))] n (forTo tellM f6 t1 j.1.1) j.2) (fun j => n - j.1.1) (by simp) _ (fun ⟨⟨k, hk⟩, y⟩ => ?_) (⟨0, Nat.zero_le _⟩, y0)
  have f := forTell_is f6 t1 k
  have e1 : forTo tellM f6 t1 (k + 1) = if f6 k = true then tellM (forTo tellM f6 t1 k) k else forTo tellM f6 t1 k := rfl
  obtain ⟨T, hT⟩ : ∃ T, forTo tellM f6 t1 k = T := ⟨_, rfl⟩
  rw [hT] at f e1
  have hlT : T.s.po.length = n := by rw [f.1]; exact hl
  refine step_at (u1S a n m v2 v3 v4 R b6 b7 Ro C P h z rp rl tl f6 f7 [(13, .v (iv (k : Nat)))] n T y) (by rw [← hT]) ?_ ?_ (by show 1 ≤ 2; decide)
  exact fun go out => [.sp (decide ((k : Int) < (n : Int)))
    (fun d =>
      have hkn : k < n := by simpa using d
      let nx (T' : TS) (y : H2) (e : forTo tellM f6 t1 (k + 1) = T') : List (Ora Tryd.prog) := [.r _ _ (wrap_next hkn (by omega)), go (⟨k + 1, hkn⟩, y) (by show n - (k + 1) < n - k; omega) (u1S a n m v2 v3 v4 R b6 b7 Ro C P h z rp rl tl f6 f7 [(13, .v (iv ((k + 1 : Nat) : Int)))] n T' y) (by rw [← e])]
      [.b _ _ d, .so _ T.s.po[k]? (fun hx => [.no (by simp at hx; omega)]) fun x hx => [oBi (b := b6) (k := k) (by omega), oBg (b := b6) 1 f6 hkn hn, .sp (f6 k)
        (fun c => [.b _ _ c, oM (tw_tell hx (h4 k x c (by rw [← f.1]; exact hx)) (hs k x (by rw [← f.1]; exact hx)) (by omega) (by have := f.2.2; omega) (Hp.mk a n m v2 v3 v4) y hlT) 0 5 fun y1 => nx (tellM T k) y1 (by rw [e1, if_pos c])])
        (fun c => [.b _ _ c] ++ nx T y (by rw [e1, if_neg (by simp [c])]))]])
    (fun d => [.b _ _ d, out y (u1S a n m v2 v3 v4 R b6 b7 Ro C P h z rp rl tl f6 f7 [(13, .v (iv (k : Nat)))] n T y) (by obtain rfl : k = n := (by simp at d; omega); rw [← hT])])]
  intro _ _; kernel_rfl
end
theorem assume_st {x : Po} {u : Vc} {r : Int} {v : Vc} {dl : Int} (h : 0 ≤ x.p11 ∧ x.p11 ≤ 2) : 0 ≤ (assumeP x u r v dl).p11 ∧ (assumeP x u r v dl).p11 ≤ 2 := by
  unfold assumeP
  split
  · exact ⟨Int.le_refl 0, by show (0 : Int) ≤ 2; omega⟩
  · split
    · split
      · exact h
      · exact ⟨by show (0 : Int) ≤ 2; omega, Int.le_refl 2⟩
    · split
      · show 0 ≤ (bif edgeB x then 2 else (bif decide (x.p10 = 4) then x.p11 else 0)) ∧ (bif edgeB x then 2 else (bif decide (x.p10 = 4) then x.p11 else 0)) ≤ 2
        cases edgeB x
        · cases decide (x.p10 = 4)
          · exact ⟨Int.le_refl 0, by show (0 : Int) ≤ 2; omega⟩
          · exact h
        · exact ⟨by show (0 : Int) ≤ 2; omega, Int.le_refl 2⟩
      · exact h
theorem same_st {l l' : List Po} (h : sameBut l l') (hs : stB l) : stB l' := fun k y hy => by
  cases hx : l[k]? with
  | none =>
    have h1 := List.getElem?_eq_none_iff.1 hx
    have h2 := (List.getElem?_eq_some_iff.1 hy).1
    have := h.1
    omega
  | some x =>
    obtain ⟨y', h1, q, h2⟩ := h.2 k x hx
    rw [hy] at h1
    injection h1 with h1
    subst h1
    rw [h2]
    exact hs k x hx
theorem as_st {t : TS} (hs : stB t.s.po) : stB (mapTo (asF t) t t.s.po.length).s.po := fun k y hy => by
  rw [mapTo_get] at hy
  split at hy
  · obtain ⟨x, hx, rfl⟩ := Option.map_eq_some_iff.1 hy
    exact assume_st (hs k x hx)
  · exact hs k y hy
theorem forChanged_same (p : Nat → Bool) (t1 : TS) : ∀ k, sameBut t1.s.po (forTo changedM p t1 k).s.po
  | 0 => sameBut.refl _
  | k + 1 => by
    have a := forChanged_same p t1 k
    show sameBut _ (if p k = true then changedM (forTo changedM p t1 k) k else forTo changedM p t1 k).s.po
    split
    · exact a.trans (changedM_same _ _)
    · exact a
theorem forChanged_is (p : Nat → Bool) (t1 : TS) : ∀ k, (forTo changedM p t1 k).s.po.length = t1.s.po.length ∧ (forTo changedM p t1 k).s.cf = t1.s.cf ∧ (forTo changedM p t1 k).told = t1.told
  | 0 => ⟨rfl, rfl, rfl⟩
  | k + 1 => by
    obtain ⟨a, b, c⟩ := forChanged_is p t1 k
    show (if p k = true then changedM (forTo changedM p t1 k) k else forTo changedM p t1 k).s.po.length = _ ∧ (if p k = true then changedM (forTo changedM p t1 k) k else forTo changedM p t1 k).s.cf = _ ∧ (if p k = true then changedM (forTo changedM p t1 k) k else forTo changedM p t1 k).told = _
    have hc := changedM_is (forTo changedM p t1 k) k
    split
    · exact ⟨hc.1.trans a, hc.2.1.trans b, hc.2.2.2.trans c⟩
    · exact ⟨a, b, c⟩
theorem choose_for (t : TS) : chooseM t = forTo tellM (pAt (anewF t) t.s.po) (forTo changedM (pAt (openF t) t.s.po) (mapTo (asF t) t t.s.po.length) t.s.po.length) t.s.po.length := by
  unfold chooseM
  dsimp only
  rw [foldT_mark, foldT_mark]
theorem anew_role {t : TS} {k : Nat} {x : Po} (h : pAt (anewF t) t.s.po k = true) (hx : (mapTo (asF t) t t.s.po.length).s.po[k]? = some x) : x.p10 = 4 := by
  unfold pAt at h
  rw [mapTo_get] at hx
  split at hx
  · obtain ⟨y, hy, rfl⟩ := Option.map_eq_some_iff.1 hx
    rw [hy] at h
    have h : anewF t k y = true := h
    unfold anewF assumeN at h
    rw [Bool.and_eq_true, decide_eq_true_eq] at h
    show (assumeP y (vecN y) _ _ _).p10 = 4
    rw [assume_role]
    exact h.1
  · rw [hx] at h
    next c =>
    exact absurd (List.getElem?_eq_some_iff.1 hx).1 c
theorem tw_choose {t : TS} (hn : t.s.po.length ≤ 16) (hf : t.fl.length + t.s.po.length * t.s.po.length ≤ 1900) (ht : t.told.length + t.s.po.length ≤ 1900) (hid : 0 ≤ t.s.cf.p0) (hok : ∀ (k : Nat) (x : Po), t.s.po[k]? = some x → okP x) (hs : stB t.s.po) : Acts 47 33 [] t (chooseM t) := by
  intro c y hl
  obtain ⟨a, n, m, v2, v3, v4⟩ := c
  have hl : t.s.po.length = n := hl
  subst hl
  have m1 := mapTo_is (asF t) t t.s.po.length
  have e0 := choose_for t
  have ha := fun R b6 b7 Ro C P h z y => u_assume t a t.s.po.length m v2 v3 v4 R b6 b7 Ro C P h z (rpsOf t) (rolesOf t) (tellsOf t) (pAt (anewF t) t.s.po) (pAt (openF t) t.s.po) y rfl hn hok rfl rfl rfl rfl
  have s1 := as_st hs
  have r4 := fun k x => anew_role (t := t) (k := k) (x := x)
  rw [show asT t t.s.po.length = mapTo (asF t) t t.s.po.length from rfl] at ha
  obtain ⟨t1, ht1⟩ : ∃ t1, mapTo (asF t) t t.s.po.length = t1 := ⟨_, rfl⟩
  rw [ht1] at m1 e0 ha s1 r4
  obtain ⟨f6, h6⟩ : ∃ f, pAt (anewF t) t.s.po = f := ⟨_, rfl⟩
  obtain ⟨f7, h7⟩ : ∃ f, pAt (openF t) t.s.po = f := ⟨_, rfl⟩
  rw [h6, h7] at ha e0
  rw [h6] at r4
  have hb := fun R b6 b7 Ro C P h z y => u_changed a t.s.po.length m v2 v3 v4 R b6 b7 Ro C P h z (rpsOf t) (rolesOf t) (tellsOf t) f6 f7 t1 y m1.1 hn (by rw [m1.2.2.1]; exact hf)
  have m2 := forChanged_is f7 t1 t.s.po.length
  have q2 := forChanged_same f7 t1 t.s.po.length
  obtain ⟨t2, ht2⟩ : ∃ t2, forTo changedM f7 t1 t.s.po.length = t2 := ⟨_, rfl⟩
  rw [ht2] at m2 q2 hb e0
  have hd := fun R b6 b7 Ro C P h z y => u_tell a t.s.po.length m v2 v3 v4 R b6 b7 Ro C P h z (rpsOf t) (rolesOf t) (tellsOf t) f6 f7 t2 y (m2.1.trans m1.1) hn (by rw [m2.2.2, m1.2.2.2]; exact ht) (fun k x hk hx => by
    cases hx1 : t1.s.po[k]? with
    | none =>
      have h1 := List.getElem?_eq_none_iff.1 hx1
      have h2 := (List.getElem?_eq_some_iff.1 hx).1
      have := q2.1
      omega
    | some x1 =>
      obtain ⟨y', e1, q, e2⟩ := q2.2 k x1 hx1
      rw [hx] at e1
      injection e1 with e1
      subst e1
      rw [e2]
      exact r4 k x1 hk hx1) (same_st q2 s1)
  obtain ⟨t3, ht3⟩ : ∃ t3, forTo tellM f6 t2 t.s.po.length = t3 := ⟨_, rfl⟩
  rw [ht3] at hd e0
  rw [e0]
  have hp := fun R => u_ports t a t.s.po.length m v2 v3 v4 y R rfl (by omega) hok
  have ec : Value.int .u64 ((selfN t : Nat) : Int) = .int .u64 t.s.cf.p0 := by unfold selfN; rw [Int.toNat_of_nonneg hid]
  have hc := fun h : Hd => choose_fun (selfN t) (rpsOf t) h.1 t.s.po.length h.2 (rpTo_len _ (Nat.le_refl _)) (by omega) (fun z hz => by obtain ⟨j, x, hx, rfl⟩ := rpTo_mem _ z hz; exact rpN_ok (hok j x hx) j) (F := bestOf t) rfl
  rw [ec] at hc
  exact ev_acts (fun R fin => [.a 0 _ _ (nil_own 76 8 rpC []), .l _ _ _ _ _ _ (hp R) fun h => [oF (hc h) ((none, 0), (none, 0)) 0 fun z => [.bar,
    oNw 117 (bA (flB f6 0)) (z117 f6) fun b6 => [oNw 117 (bA (flB f7 0)) (z117 f7) fun b7 => [
    .l _ _ _ _ _ _ (ha R b6 b7 (rootN (selfN t) (bestOf t)) (costN (selfN t) (bestOf t)) (portN (selfN t) (bestOf t)) h z y) fun _ => [
    .l _ _ _ _ _ _ (hb R b6 b7 (rootN (selfN t) (bestOf t)) (costN (selfN t) (bestOf t)) (portN (selfN t) (bestOf t)) h z y) fun y1 => [
    .l _ _ _ _ _ _ (hd R b6 b7 (rootN (selfN t) (bestOf t)) (costN (selfN t) (bestOf t)) (portN (selfN t) (bestOf t)) h z y1) fun y2 => [
    .a 0 [bdB b7 (bA (flB f7 t.s.po.length)) 117, bdB b6 (bA (flB f6 t.s.po.length)) 117, bdO 76 8 rpC (.slice h.1 t.s.po.length h.2) (rpsOf t), bdO 3 1 inC (.slice z.1.1 t.s.po.length z.1.2) (rolesOf t), bdO 71 4 vcC (.slice z.2.1 t.s.po.length z.2.2) (tellsOf t)] [] (fun _ _ _ _ K => drop_one (drop_one (drop_one (drop_one (drop_one K))))),
    fin y2 _ rfl]]]]]]]]) (fun R β w => by kernel_rfl)
end
section
/- Layer 18's law: the twin's start, switches. -/
open Go.RowKit
open Ev
set_option maxRecDepth 100000
/-- What chooses asks of a tree. -/
structure Gd (t : TS) : Prop where
  n : t.s.po.length ≤ 16
  f : t.fl.length ≤ 1000
  td : t.told.length ≤ 1000
  id : 0 ≤ t.s.cf.p0
  ok : ∀ (k : Nat) (x : Po), t.s.po[k]? = some x → okP x
  st : stB t.s.po
theorem Gd.choose {t : TS} (h : Gd t) : Acts 47 33 [] t (chooseM t) := tw_choose h.n (by have := Nat.mul_le_mul h.n h.n; have := h.f; omega) (by have := h.n; have := h.td; omega) h.id h.ok h.st
theorem ok_set {l : List Po} {i : Nat} {z : Po} (h : ∀ (k : Nat) (x : Po), l[k]? = some x → okP x) (hz : okP z) (k : Nat) (x : Po) (hx : (l.set i z)[k]? = some x) : okP x := by
  rcases set_cases hx with ⟨-, e⟩ | e
  · rw [e]; exact hz
  · exact h k x e
theorem st_set {l : List Po} {i : Nat} {z : Po} (h : stB l) (hz : 0 ≤ z.p11 ∧ z.p11 ≤ 2) : stB (l.set i z) := fun k x hx => by
  rcases set_cases hx with ⟨-, e⟩ | e
  · rw [e]; exact hz
  · exact h k x e
theorem switch_ok {x : Po} {up ad : Bool} {d : Int} (h : okP x) : okP (switchP x up ad d) := by
  have z := okP.k h
  unfold switchP
  split
  · split
    · exact ⟨h.r, h.c, h.b, h.p, h.k⟩
    · exact ⟨⟨by show (0:Int) ≤ 0; decide, by show (0:Int) < 18446744073709551616; decide⟩, ⟨by show (0:Int) ≤ 0; decide, by show (0:Int) < 4294967296; decide⟩, ⟨by show (0:Int) ≤ 0; decide, by show (0:Int) < 18446744073709551616; decide⟩, ⟨by show (0:Int) ≤ 0; decide, by show (0:Int) < 65536; decide⟩, z⟩
  · exact ⟨⟨by show (0:Int) ≤ 0; decide, by show (0:Int) < 18446744073709551616; decide⟩, ⟨by show (0:Int) ≤ 0; decide, by show (0:Int) < 4294967296; decide⟩, ⟨by show (0:Int) ≤ 0; decide, by show (0:Int) < 18446744073709551616; decide⟩, ⟨by show (0:Int) ≤ 0; decide, by show (0:Int) < 65536; decide⟩, z⟩
theorem switch_st {x : Po} {up ad : Bool} {d : Int} (h : 0 ≤ x.p11 ∧ x.p11 ≤ 2) : 0 ≤ (switchP x up ad d).p11 ∧ (switchP x up ad d).p11 ≤ 2 := by
  unfold switchP
  split
  · split
    · exact h
    · exact ⟨by show (0:Int) ≤ 0; decide, by show (0:Int) ≤ 2; decide⟩
  · exact ⟨by show (0:Int) ≤ 0; decide, by show (0:Int) ≤ 2; decide⟩
theorem map_ok {f : Nat → Po → Po} {t : TS} (h : ∀ (k : Nat) (x : Po), t.s.po[k]? = some x → okP x) (hf : ∀ k x, okP x → okP (f k x)) (n : Nat) : ∀ (k : Nat) (x : Po), (mapTo f t n).s.po[k]? = some x → okP x := fun k y hy => by
  rw [mapTo_get] at hy
  split at hy
  · obtain ⟨x, hx, rfl⟩ := Option.map_eq_some_iff.1 hy
    exact hf k x (h k x hx)
  · exact h k y hy
theorem map_st {f : Nat → Po → Po} {t : TS} (h : stB t.s.po) (hf : ∀ k x, (0 ≤ x.p11 ∧ x.p11 ≤ 2) → 0 ≤ (f k x).p11 ∧ (f k x).p11 ≤ 2) (n : Nat) : stB (mapTo f t n).s.po := fun k y hy => by
  rw [mapTo_get] at hy
  split at hy
  · obtain ⟨x, hx, rfl⟩ := Option.map_eq_some_iff.1 hy
    exact hf k x (h k x hx)
  · exact h k y hy
def startG (t : TS) : TS := mapTo (begF t.s.cf.p3) (t.setBeat 0) t.s.po.length
section
variable (t : TS) (a : Option Addr) (n m : Nat) (v2 v3 v4 : Value) (y : H2) (R : Bd)
def wS (N : Nat) (e : List (Nat × SV)) (e2 : Mem) (A : Bds) (T : TS) : Ev.St := ⟨sp N ((0, .p 0 0) :: e), (acA T ⟨a, n, m, v2, v3, v4⟩ y, 47) :: e2, A ++ (acO T ⟨a, n, m, v2, v3, v4⟩ y ++ [R])⟩
theorem ws_loop (hl : t.s.po.length = n) (hn : n ≤ 1000) : TY Tryd.prog 1 (.loop (loopN Tryd.prog 10 0)) (wS a n m v2 v3 v4 y R 54 [(2, .v (iv (0 : Nat)))] [] [] (t.setBeat 0)) Unit (.exit 0) (fun _ => wS a n m v2 v3 v4 y R 54 [] [] [] (startG t)) := by
  refine T_loop (I := {k : Nat // k ≤ n}) (fun j => wS a n m v2 v3 v4 y R 54 [(2, .v (iv (j.1 : Nat)))] [] [] (mapTo (begF t.s.cf.p3) (t.setBeat 0) j.1)) (fun j => n - j.1) (by simp) _ (fun ⟨k, hk⟩ => ?_) ⟨0, Nat.zero_le _⟩
  have f := mapTo_is (begF t.s.cf.p3) (t.setBeat 0) k
  have e1 : mapTo (begF t.s.cf.p3) (t.setBeat 0) (k + 1) = mapStep (begF t.s.cf.p3) (mapTo (begF t.s.cf.p3) (t.setBeat 0) k) k := rfl
  have eS : startG t = mapTo (begF t.s.cf.p3) (t.setBeat 0) n := by unfold startG; rw [hl]
  obtain ⟨T, hT⟩ : ∃ T, mapTo (begF t.s.cf.p3) (t.setBeat 0) k = T := ⟨_, rfl⟩
  rw [hT] at f e1
  have hlT : T.s.po.length = n := f.1.trans hl
  have hcf : T.s.cf = t.s.cf := f.2.1
  refine step_at (wS a n m v2 v3 v4 y R 54 [(2, .v (iv (k : Nat)))] [] [] T) (by rw [← hT]) ?_ ?_ (by show 1 ≤ 1; decide)
  exact fun go out => [.sp (decide ((k : Int) < (n : Int)))
    (fun d =>
      have h : k < n := by simpa using d
      [.b _ _ d, .so _ T.s.po[k]? (fun hx => [.no (by simp at hx; omega)]) fun x hx => [oJx poE 0 a n m h hlT, oJd poE 0 a n m hx hlT, .c _ _ _ (ev_switch x false x.p6 T.s.cf), .c _ _ _ (ev_switch (switchP x false x.p6 T.s.cf.p3) x.p7 x.p6 T.s.cf), oJx poE 0 a n m h hlT, oJt poE 0 a n m (switchP (switchP x false x.p6 T.s.cf.p3) x.p7 x.p6 T.s.cf.p3) h hlT rfl,
        .r _ _ (wrap_next h (by omega)), go ⟨k + 1, h⟩ (by show n - (k + 1) < n - k; omega) (wS a n m v2 v3 v4 y R 54 [(2, .v (iv ((k + 1 : Nat) : Int)))] [] [] (T.setPo (T.s.po.set k (switchP (switchP x false x.p6 T.s.cf.p3) x.p7 x.p6 T.s.cf.p3)))) (by rw [e1, mapStep_some hx, hcf]; rfl)]])
    (fun d => [.b _ _ d, out () (wS a n m v2 v3 v4 y R 54 [] [] [] T) (by rw [eS, ← hT, show k = n by simp at d; omega])])]
  intro _ _; kernel_rfl
end
theorem startG_gd {t : TS} (h : Gd t) : Gd (startG t) ∧ (startG t).s.po.length = t.s.po.length := by
  have f := mapTo_is (begF t.s.cf.p3) (t.setBeat 0) t.s.po.length
  refine ⟨⟨by show (mapTo _ _ _).s.po.length ≤ _; rw [f.1]; exact h.n, by show (mapTo _ _ _).fl.length ≤ _; rw [f.2.2.1]; exact h.f, by show (mapTo _ _ _).told.length ≤ _; rw [f.2.2.2]; exact h.td, by show 0 ≤ (mapTo _ _ _).s.cf.p0; rw [f.2.1]; exact h.id, ?_, ?_⟩, f.1⟩
  · exact map_ok (t := t.setBeat 0) h.ok (fun k x hx => switch_ok (switch_ok hx)) _
  · exact map_st (t := t.setBeat 0) h.st (fun k x hx => switch_st (switch_st hx)) _
theorem tw_start {t : TS} (h : Gd t) : Acts 47 10 [] t (chooseM (startG t)) := by
  intro c y hl
  obtain ⟨a, n, m, v2, v3, v4⟩ := c
  have hl : t.s.po.length = n := hl
  obtain ⟨g1, g2⟩ := startG_gd h
  have hn := h.n
  have hc := g1.choose ⟨a, n, m, v2, v3, v4⟩ y (g2.trans hl)
  have hL := fun R => ws_loop t a n m v2 v3 v4 y R hl (by omega)
  obtain ⟨T, hT⟩ : ∃ T, startG t = T := ⟨_, rfl⟩
  rw [hT] at hc hL ⊢
  obtain ⟨C, hC⟩ : ∃ C, chooseM T = C := ⟨_, rfl⟩
  rw [hC] at hc ⊢
  exact ev_acts (fun R fin => [.l _ _ _ _ _ _ (hL R) fun _ => [oM hc 0 0 fun y1 => [fin y1 _ rfl]]]) (fun R β w => by kernel_rfl)
/-- A port is switched: what becomes of the tree. -/
def swT (t : TS) (i : Nat) (x : Po) (up ad : Bool) : TS := (if (onP x && !(up && ad)) = true then t.flush ((i : Int) + 1) else t).setPo (t.s.po.set i (switchP x up ad t.s.cf.p3))
theorem tw_switch_no {t : TS} (p : Int) (up ad : Bool) (hp : ¬ (1 ≤ p ∧ p ≤ (t.s.po.length : Int))) : Acts 47 15 [iv p, .bool up, .bool ad] t t := by
  intro c y hl
  obtain ⟨a, n, m, v2, v3, v4⟩ := c
  have hl : t.s.po.length = n := hl
  exact ev_acts (fun R fin => [.sp (decide (p < 1))
    (fun h => [.b _ _ h, Yes, fin y t rfl])
    (fun h => [.b _ _ h, .b (decide (p > (n : Int))) true (by simp at h ⊢; omega), fin y t rfl])]) (fun R β w => by kernel_rfl)
theorem wrap_pre {i : Nat} (h : i ≤ 1000) : iv (IntKind.i64.wrap ((i : Int) + 1 - 1)) = iv (i : Nat) := by
  rw [show ((i : Int) + 1 - 1) = (i : Nat) by omega, wrap_nat (by omega)]
theorem tw_switch {t : TS} {i : Nat} {x : Po} (h : Gd t) (hf : t.fl.length ≤ 500) (hx : t.s.po[i]? = some x) (up ad : Bool) : Acts 47 15 [iv ((i : Int) + 1), .bool up, .bool ad] t (chooseM (swT t i x up ad)) := by
  intro c y hl
  obtain ⟨a, n, m, v2, v3, v4⟩ := c
  have hl : t.s.po.length = n := hl
  have hk := (List.getElem?_eq_some_iff.1 hx).1
  have hn := h.n
  have gd : ∀ T, swT t i x up ad = T → Gd T ∧ T.s.po.length = n := fun T e => by
    subst e
    have hlen : (t.s.po.set i (switchP x up ad t.s.cf.p3)).length = n := by rw [List.length_set]; exact hl
    unfold swT
    split
    · exact ⟨⟨by show (t.s.po.set i _).length ≤ _; omega, by show (t.fl ++ [_]).length ≤ _; simp; omega, h.td, h.id, ok_set h.ok (switch_ok (h.ok i x hx)), st_set h.st (switch_st (h.st i x hx))⟩, hlen⟩
    · exact ⟨⟨by show (t.s.po.set i _).length ≤ _; omega, h.f, h.td, h.id, ok_set h.ok (switch_ok (h.ok i x hx)), st_set h.st (switch_st (h.st i x hx))⟩, hlen⟩
  have hin : i < n := by omega
  obtain ⟨C, hC⟩ : ∃ C, chooseM (swT t i x up ad) = C := ⟨_, rfl⟩
  rw [hC]
  have tl : ∀ (T : TS), swT t i x up ad = T → ∀ y, Meth Tryd.prog 33 [] (acA T ⟨a, n, m, v2, v3, v4⟩ y) 47 (acO T ⟨a, n, m, v2, v3, v4⟩ y) H2 (fun _ => .tuple #[]) (acA C ⟨a, n, m, v2, v3, v4⟩) (acO C ⟨a, n, m, v2, v3, v4⟩) := fun T e y => by
    have q := (gd T e).1.choose ⟨a, n, m, v2, v3, v4⟩ y (gd T e).2
    rw [← e, hC, e] at q
    exact q
  exact ev_acts (fun R fin =>
    let nx (T : TS) (y : H2) (e : swT t i x up ad = T.setPo (t.s.po.set i (switchP x up ad t.s.cf.p3))) : List (Ora Tryd.prog) := [.r _ _ (wrap_pre (i := i) (by omega)), .c _ _ _ (ev_switch x up ad t.s.cf), oJx poE 0 a n m hin hl, oJt poE 0 a n m (switchP x up ad t.s.cf.p3) hin hl rfl, oM (tl _ e y) 0 0 fun y1 => [fin y1 C rfl]]
    let fl (e : swT t i x up ad = (t.flush ((i : Int) + 1)).setPo (t.s.po.set i (switchP x up ad t.s.cf.p3))) : List (Ora Tryd.prog) := [oAp inE 45 2 2 #[false, false] (.slice y.2.1 t.fl.length y.2.2) t.fl [(i : Int) + 1] (t.flush ((i : Int) + 1)).fl.length (by show _ = (t.fl ++ [_]).length; simp) (by show (t.fl ++ [_]).length ≤ _; simp; omega) fun y2 => nx (t.flush ((i : Int) + 1)) (y.1, y2) e]
    let no (h : (onP x && !(up && ad)) = false) : swT t i x up ad = t.setPo (t.s.po.set i (switchP x up ad t.s.cf.p3)) := by unfold swT; rw [if_neg (by rw [h]; decide)]
    let yes (h : (onP x && !(up && ad)) = true) : swT t i x up ad = (t.flush ((i : Int) + 1)).setPo (t.s.po.set i (switchP x up ad t.s.cf.p3)) := by unfold swT; rw [if_pos h]
    [.b (decide ((i : Int) + 1 < 1)) false (by simp; omega), .b (decide ((i : Int) + 1 > (n : Int))) false (by simp; omega), .r _ _ (wrap_pre (i := i) (by omega)), oJx poE 0 a n m hin hl, oJd poE 0 a n m hx hl, .sp x.p7
      (fun h7 => [.b _ _ h7, .sp x.p6
        (fun h6 => [.b _ _ h6, .sp up
          (fun hu => [.b _ _ hu, .sp ad (fun ha => [.b (!_) _ (nb ha)] ++ nx t y (no (by simp [hu, ha]))) (fun ha => [.b (!_) _ (nb ha)] ++ fl (yes (by simp [onP, h7, h6, hu, ha])))])
          (fun hu => [.b _ _ hu, Yes] ++ fl (yes (by simp [onP, h7, h6, hu])))])
        (fun h6 => [.b _ _ h6, No] ++ nx t y (no (by simp [onP, h7, h6])))])
      (fun h7 => [.b _ _ h7, No, No] ++ nx t y (no (by simp [onP, h7])))]) (fun R β w => by kernel_rfl)
end
section
/- Layer 18's law: the twin's tick. -/
open Go.RowKit
open Ev
set_option maxRecDepth 100000
theorem tick1_is (x : Po) : tick1 x = if decide (x.p20 > 0) = true then { x with p20 := IntKind.i64.wrap (x.p20 - 1) } else x := by
  unfold tick1
  by_cases h : 0 < x.p20
  · rw [if_pos h, if_pos (by simpa using h)]
  · rw [if_neg h, if_neg (by simpa using h)]
section
variable (t : TS) (a : Option Addr) (n m : Nat) (v2 v3 v4 : Value) (y : H2) (R : Bd)
theorem wt_fade (hl : t.s.po.length = n) (hn : n ≤ 1000) : TY Tryd.prog 1 (.loop (loopN Tryd.prog 13 0)) (wS a n m v2 v3 v4 y R 193 [(2, .v (iv (0 : Nat)))] [] [] t) Unit (.exit 0) (fun _ => wS a n m v2 v3 v4 y R 193 [] [] [] (fadeM t)) := by
  refine T_loop (I := {k : Nat // k ≤ n}) (fun j => wS a n m v2 v3 v4 y R 193 [(2, .v (iv (j.1 : Nat)))] [] [] (mapTo (fun _ x => tick1 (fadeP x)) t j.1)) (fun j => n - j.1) (by simp) _ (fun ⟨k, hk⟩ => ?_) ⟨0, Nat.zero_le _⟩
  have f := mapTo_is (fun _ x => tick1 (fadeP x)) t k
  have e1 : mapTo (fun _ x => tick1 (fadeP x)) t (k + 1) = mapStep (fun _ x => tick1 (fadeP x)) (mapTo (fun _ x => tick1 (fadeP x)) t k) k := rfl
  have eS : fadeM t = mapTo (fun _ x => tick1 (fadeP x)) t n := by unfold fadeM; rw [hl]
  obtain ⟨T, hT⟩ : ∃ T, mapTo (fun _ x => tick1 (fadeP x)) t k = T := ⟨_, rfl⟩
  rw [hT] at f e1
  have hlT : T.s.po.length = n := f.1.trans hl
  refine step_at (wS a n m v2 v3 v4 y R 193 [(2, .v (iv (k : Nat)))] [] [] T) (by rw [← hT]) ?_ ?_ (by show 1 ≤ 1; decide)
  exact fun go out => [.sp (decide ((k : Int) < (n : Int)))
    (fun d =>
      have h : k < n := by simpa using d
      [.b _ _ d, .so _ T.s.po[k]? (fun hx => [.no (by simp at hx; omega)]) fun x hx => [.ob {F : Po × Bool // fadeP x = F.1 ∧ fadeB x = F.2} ⟨(fadeP x, fadeB x), rfl, rfl⟩ fun F =>
        have hc : ∀ w, Calls Tryd.prog 37 #[poV x] w fun e w' => e = .returned (.tuple #[poV F.1.1, .bool F.1.2]) ∧ Below w.heap.size w w' := by rw [← F.2.1, ← F.2.2]; exact fade_any x
        let nx (X : Po) (hX : tick1 F.1.1 = X) : List (Ora Tryd.prog) := [oJx poE 0 a n m h hlT, oJt poE 0 a n m X h hlT rfl, .r _ _ (wrap_next h (by omega)), go ⟨k + 1, h⟩ (by show n - (k + 1) < n - k; omega) (wS a n m v2 v3 v4 y R 193 [(2, .v (iv ((k + 1 : Nat) : Int)))] [] [] (T.setPo (T.s.po.set k X))) (by rw [e1, mapStep_some hx, F.2.1, hX])]
        [oJx poE 0 a n m h hlT, oJd poE 0 a n m hx hlT, .c _ _ _ hc, .sp (decide (F.1.1.p20 > 0))
          (fun c => [.b _ _ c] ++ nx { F.1.1 with p20 := IntKind.i64.wrap (F.1.1.p20 - 1) } (by rw [tick1_is, if_pos c]))
          (fun c => [.b _ _ c] ++ nx F.1.1 (by rw [tick1_is, if_neg (by simp [c])]))]]])
    (fun d => [.b _ _ d, out () (wS a n m v2 v3 v4 y R 193 [] [] [] T) (by rw [eS, ← hT, show k = n by simp at d; omega])])]
  intro _ _; kernel_rfl
end
section
variable (t : TS) (a : Option Addr) (n m : Nat) (v2 v3 v4 : Value) (y : H2) (R : Bd) (b : Nat) (f5 : Nat → Bool)
theorem wt_step (hl : t.s.po.length = n) (hn : n ≤ 16) (h5 : f5 = pAt (opF t.s.cf.p3) t.s.po) : TY Tryd.prog 1 (.loop (loopN Tryd.prog 13 1)) (wS a n m v2 v3 v4 y R 193 [(5, .v (pB b)), (6, .v (iv (0 : Nat)))] [] [bdB b (bA (flB f5 0)) 117] t) Unit (.exit 2) (fun _ => wS a n m v2 v3 v4 y R 193 [(5, .v (pB b))] [] [bdB b (bA (flB f5 n)) 117] (mapTo (stF t.s.cf.p3) t n)) := by
  refine T_loop (I := {k : Nat // k ≤ n}) (fun j => wS a n m v2 v3 v4 y R 193 [(5, .v (pB b)), (6, .v (iv (j.1 : Nat)))] [] [bdB b (bA (flB f5 j.1)) 117] (mapTo (stF t.s.cf.p3) t j.1)) (fun j => n - j.1) (by simp) _ (fun ⟨k, hk⟩ => ?_) ⟨0, Nat.zero_le _⟩
  have f := mapTo_is (stF t.s.cf.p3) t k
  have hx0 : (mapTo (stF t.s.cf.p3) t k).s.po[k]? = t.s.po[k]? := by rw [mapTo_get, if_neg (Nat.lt_irrefl _)]
  have e1 : mapTo (stF t.s.cf.p3) t (k + 1) = mapStep (stF t.s.cf.p3) (mapTo (stF t.s.cf.p3) t k) k := rfl
  obtain ⟨T, hT⟩ : ∃ T, mapTo (stF t.s.cf.p3) t k = T := ⟨_, rfl⟩
  rw [hT] at f e1 hx0
  have hlT : T.s.po.length = n := f.1.trans hl
  have hcf : T.s.cf = t.s.cf := f.2.1
  refine step_at (wS a n m v2 v3 v4 y R 193 [(5, .v (pB b)), (6, .v (iv (k : Nat)))] [] [bdB b (bA (flB f5 k)) 117] T) (by rw [← hT]) ?_ ?_ (by show 1 ≤ 1; decide)
  exact fun go out => [.sp (decide ((k : Int) < (n : Int)))
    (fun d =>
      have h : k < n := by simpa using d
      [.b _ _ d, .so _ T.s.po[k]? (fun hx => [.no (by simp at hx; omega)]) fun x hx => [.ob {F : Po × Bool // stepP x T.s.cf.p3 = F.1 ∧ openedB x F.1 = F.2} ⟨(stepP x T.s.cf.p3, openedB x (stepP x T.s.cf.p3)), rfl, rfl⟩ fun F =>
        have hc : ∀ w, Calls Tryd.prog 38 #[poV x, cfV T.s.cf] w fun e w' => e = .returned (.tuple #[poV F.1.1, .bool F.1.2]) ∧ Below w.heap.size w w' := by rw [← F.2.2, ← F.2.1]; exact step_any x T.s.cf
        have hX : stF t.s.cf.p3 k x = F.1.1 := by rw [← F.2.1, hcf]; rfl
        [oJx poE 1 a n m h hlT, oJd poE 1 a n m hx hlT, .c _ _ _ hc, oJx poE 1 a n m h hlT, oJt poE 1 a n m F.1.1 h hlT rfl, oBi (b := b) (k := k) (by omega), oBp (b := b) (k := k) 0 f5 F.1.2 (by omega) (by rw [h5]; unfold pAt; rw [← hx0, hx]; exact (show openedB x (stF t.s.cf.p3 k x) = F.1.2 by rw [hX]; exact F.2.2)), .r _ _ (wrap_next h (by omega)), go ⟨k + 1, h⟩ (by show n - (k + 1) < n - k; omega) (wS a n m v2 v3 v4 y R 193 [(5, .v (pB b)), (6, .v (iv ((k + 1 : Nat) : Int)))] [] [bdB b (bA (flB f5 (k + 1))) 117] (T.setPo (T.s.po.set k F.1.1))) (by rw [e1, mapStep_some hx, hX])]]])
    (fun d => [.b _ _ d, out () (wS a n m v2 v3 v4 y R 193 [(5, .v (pB b))] [] [bdB b (bA (flB f5 k)) 117] T) (by rw [← hT, show k = n by simp at d; omega])])]
  intro _ _; kernel_rfl
theorem wt_changed (t1 : TS) (y0 : H2) (hl : t1.s.po.length = n) (hn : n ≤ 16) (hf : t1.fl.length + n * n ≤ 1900) :
    TY Tryd.prog 1 (.loop (loopN Tryd.prog 13 2)) (wS a n m v2 v3 v4 y0 R 193 [(5, .v (pB b)), (7, .v (iv (0 : Nat)))] [] [bdB b (bA (flB f5 n)) 117] t1) H2 (.exit 4) (fun y => wS a n m v2 v3 v4 y R 193 [] [] [] (forTo changedM f5 t1 n)) := by
  have key : ∀ k, k ≤ n → (forTo changedM f5 t1 k).s.po.length = n ∧ (forTo changedM f5 t1 k).fl.length ≤ t1.fl.length + k * n := by
    intro k
    induction k with
    | zero => intro _; exact ⟨hl, by simp [forTo]⟩
    | succ k ih =>
      intro hk
      obtain ⟨a, b⟩ := ih (by omega)
      show (if f5 k = true then changedM (forTo changedM f5 t1 k) k else forTo changedM f5 t1 k).s.po.length = n ∧ (if f5 k = true then changedM (forTo changedM f5 t1 k) k else forTo changedM f5 t1 k).fl.length ≤ _
      have hc := changedM_is (forTo changedM f5 t1 k) k
      have e : (k + 1) * n = k * n + n := Nat.succ_mul k n
      split
      · exact ⟨hc.1.trans a, by have := hc.2.2.1; omega⟩
      · exact ⟨a, by omega⟩
  refine T_loop (I := {k : Nat // k ≤ n} × H2) (fun j => wS a n m v2 v3 v4 j.2 R 193 [(5, .v (pB b)), (7, .v (iv (j.1.1 : Nat)))] [] [bdB b (bA (flB f5 n)) 117] (forTo changedM f5 t1 j.1.1)) (fun j => n - j.1.1) (by simp) _ (fun ⟨⟨k, hk⟩, y⟩ => ?_) (⟨0, Nat.zero_le _⟩, y0)
  have f := key k hk
  have e1 : forTo changedM f5 t1 (k + 1) = if f5 k = true then changedM (forTo changedM f5 t1 k) k else forTo changedM f5 t1 k := rfl
  obtain ⟨T, hT⟩ : ∃ T, forTo changedM f5 t1 k = T := ⟨_, rfl⟩
  rw [hT] at f e1
  have hfk : k < n → T.fl.length + T.s.po.length ≤ 1900 := fun q => by
    have a1 : (k + 1) * n = k * n + n := Nat.succ_mul k n
    have a2 : (k + 1) * n ≤ n * n := Nat.mul_le_mul_right n q
    omega
  refine step_at (wS a n m v2 v3 v4 y R 193 [(5, .v (pB b)), (7, .v (iv (k : Nat)))] [] [bdB b (bA (flB f5 n)) 117] T) (by rw [← hT]) ?_ ?_ (by show 1 ≤ 1; decide)
  exact fun go out => [.sp (decide ((k : Int) < (n : Int)))
    (fun d =>
      have hkn : k < n := by simpa using d
      let nx (T' : TS) (y : H2) (e : forTo changedM f5 t1 (k + 1) = T') : List (Ora Tryd.prog) := [.r _ _ (wrap_next hkn (by omega)), go (⟨k + 1, hkn⟩, y) (by show n - (k + 1) < n - k; omega) (wS a n m v2 v3 v4 y R 193 [(5, .v (pB b)), (7, .v (iv ((k + 1 : Nat) : Int)))] [] [bdB b (bA (flB f5 n)) 117] T') (by rw [← e])]
      [.b _ _ d, .so _ T.s.po[k]? (fun hx => [.no (by simp at hx; omega)]) fun x hx => [oBi (b := b) (k := k) (by omega), oBg (b := b) 0 f5 hkn hn, .sp (f5 k)
        (fun c => [.b _ _ c, oM (tw_changed hx (by omega) (hfk hkn) ⟨a, n, m, v2, v3, v4⟩ y f.1) 0 1 fun y1 => nx (changedM T k) y1 (by rw [e1, if_pos c])])
        (fun c => [.b _ _ c] ++ nx T y (by rw [e1, if_neg (by simp [c])]))]])
    (fun d => [.b _ _ d, .a 0 [bdB b (bA (flB f5 n)) 117] [] (fun _ _ _ _ K => drop_one K), out y (wS a n m v2 v3 v4 y R 193 [] [] [] T) (by obtain rfl : k = n := (by simp at d; omega); rw [← hT])])]
  intro _ _; kernel_rfl
end
end
section
/- Layer 18's law: the twin's tick, whole. -/
open Go.RowKit
open Ev
set_option maxRecDepth 100000
def topW (x : Po) : Pd := ⟨2, true, false, false, false, false, false, 2, x.p13, x.p14, x.p15, x.p16, 0, 0, 0, 0⟩
theorem top_is {x : Po} (h : x.p10 = 3) : sentQ x topQ = topW x := by
  unfold sentQ topQ topW roleT
  rw [h]
  rfl
section
variable (t : TS) (a : Option Addr) (n m : Nat) (v2 v3 v4 : Value) (y0 : H2) (R : Bd)
theorem wt_beat (hl : t.s.po.length = n) (hn : n ≤ 1000) (ht : t.told.length + n ≤ 1900) (hs : stB t.s.po) : TY Tryd.prog 1 (.loop (loopN Tryd.prog 13 3)) (wS a n m v2 v3 v4 y0 R 193 [(8, .v (iv (0 : Nat)))] [] [] t) H2 (.exit 6) (fun y => wS a n m v2 v3 v4 y R 193 [] [] [] (beatM t)) := by
  refine T_loop (I := {k : Nat // k ≤ n} × H2) (fun j => wS a n m v2 v3 v4 j.2 R 193 [(8, .v (iv (j.1.1 : Nat)))] [] [] (beatTo t j.1.1)) (fun j => n - j.1.1) (by simp) _ (fun ⟨⟨k, hk⟩, y⟩ => ?_) (⟨0, Nat.zero_le _⟩, y0)
  have f := beatTo_is t k
  have e1 : beatTo t (k + 1) = beatStep (beatTo t k) k := rfl
  have eS : beatM t = beatTo t n := by unfold beatM; rw [hl]
  obtain ⟨T, hT⟩ : ∃ T, beatTo t k = T := ⟨_, rfl⟩
  rw [hT] at f e1
  have hlT : T.s.po.length = n := by rw [f.1]; exact hl
  have hsT : stB T.s.po := by rw [f.1]; exact hs
  have hpT : T.told.length ≤ t.told.length + k := f.2.2
  have e2 : ∀ {x}, T.s.po[k]? = some x → beatTo t (k + 1) = if onP x = true then (if x.p10 = 4 then tellM T k else if x.p10 = 3 ∧ 0 < x.p20 then sendM T k topQ else T) else T := fun {x} hx => by rw [e1]; unfold beatStep; rw [hx]
  refine step_at (wS a n m v2 v3 v4 y R 193 [(8, .v (iv (k : Nat)))] [] [] T) (by rw [← hT]) ?_ ?_ (by show 1 ≤ 1; decide)
  exact fun go out => [.sp (decide ((k : Int) < (n : Int)))
    (fun d =>
      have h : k < n := by simpa using d
      let nx (T' : TS) (y : H2) (e : beatTo t (k + 1) = T') : List (Ora Tryd.prog) := [.r _ _ (wrap_next h (by omega)), go (⟨k + 1, h⟩, y) (by show n - (k + 1) < n - k; omega) (wS a n m v2 v3 v4 y R 193 [(8, .v (iv ((k + 1 : Nat) : Int)))] [] [] T') (by rw [← e])]
      [.b _ _ d, .so _ T.s.po[k]? (fun hx => [.no (by simp at hx; omega)]) fun x hx => [oJx poE 0 a n m h hlT, oJd poE 0 a n m hx hlT, .sp x.p7
        (fun h7 => [.sp x.p6
          (fun h6 => [.sp (decide (x.p10 = 4))
            (fun h4 => [.b _ _ h7, .b _ _ h6, .b _ _ h4, oM (tw_tell hx (of_decide_eq_true h4) (hsT k x hx) (by omega) (by omega) ⟨a, n, m, v2, v3, v4⟩ y hlT) 0 0 fun y1 => [.b _ _ h7, .b _ _ h6, .b (decide (x.p10 = 3)) false (by have := of_decide_eq_true h4; simp; omega), No] ++ nx (tellM T k) y1 (by rw [e2 hx, if_pos (by simp [onP, h7, h6]), if_pos (of_decide_eq_true h4)])])
            (fun h4 => [.b _ _ h7, .b _ _ h6, .b _ _ h4, .sp (decide (x.p10 = 3))
              (fun h3 => [.sp (decide (x.p20 > 0))
                (fun hc => [.b _ _ h7, .b _ _ h6, .b _ _ h3, .b _ _ hc, .c _ _ _ (with_any x.p13 x.p14 x.p15 x.p16), .r _ _ (wrap_i h (by omega)),
                  oAp tdE 44 1 3 #[false, false] (.slice y.1.1 T.told.length y.1.2) T.told [told1 ((k : Int) + 1) (topW x)] (T.tell (told1 ((k : Int) + 1) (topW x))).told.length (by show _ = (T.told ++ [_]).length; simp) (by show (T.told ++ [_]).length ≤ _; simp; omega) fun y1 => nx (T.tell (told1 ((k : Int) + 1) (topW x))) (y1, y.2) (by
                    rw [e2 hx, if_pos (by simp [onP, h7, h6]), if_neg (of_decide_eq_false h4), if_pos ⟨of_decide_eq_true h3, of_decide_eq_true hc⟩]
                    unfold sendM
                    rw [hx]
                    dsimp only
                    rw [top_is (of_decide_eq_true h3)])])
                (fun hc => [.b _ _ h7, .b _ _ h6, .b _ _ h3, .b _ _ hc] ++ nx T y (by rw [e2 hx, if_pos (by simp [onP, h7, h6]), if_neg (of_decide_eq_false h4), if_neg (fun q => (of_decide_eq_false hc) q.2)]))])
              (fun h3 => [.b _ _ h7, .b _ _ h6, .b _ _ h3, No] ++ nx T y (by rw [e2 hx, if_pos (by simp [onP, h7, h6]), if_neg (of_decide_eq_false h4), if_neg (fun q => (of_decide_eq_false h3) q.1)]))])])
          (fun h6 => [.b _ _ h7, .b _ _ h6, No, .b _ _ h7, .b _ _ h6, No, No] ++ nx T y (by rw [e2 hx, if_neg (by simp [onP, h7, h6])]))])
        (fun h7 => [.b _ _ h7, No, No, .b _ _ h7, No, No, No] ++ nx T y (by rw [e2 hx, if_neg (by simp [onP, h7])]))]])
    (fun d => [.b _ _ d, out y (wS a n m v2 v3 v4 y R 193 [] [] [] T) (by obtain rfl : k = n := (by simp at d; omega); rw [eS, ← hT])])]
  intro _ _; kernel_rfl
end
def tickG (t : TS) : TS :=
  let t3 := stepMM (chooseM (fadeM t))
  let t4 := t3.setBeat (IntKind.i64.wrap (t3.s.beat - 1))
  if t4.s.beat ≤ 0 then beatM (t4.setBeat t4.s.cf.p2) else t4
theorem fade_ok {x : Po} (h : okP x) : okP (tick1 (fadeP x)) := by
  have q : ∀ z : Po, okP z → okP (tick1 z) := fun z h => by unfold tick1; split <;> exact ⟨h.r, h.c, h.b, h.p, h.k⟩
  refine q _ ?_
  unfold fadeP
  repeat' split
  all_goals first | exact ⟨h.r, h.c, h.b, h.p, h.k⟩ | exact ⟨⟨by show (0:Int) ≤ 0; decide, by show (0:Int) < 18446744073709551616; decide⟩, ⟨by show (0:Int) ≤ 0; decide, by show (0:Int) < 4294967296; decide⟩, ⟨by show (0:Int) ≤ 0; decide, by show (0:Int) < 18446744073709551616; decide⟩, ⟨by show (0:Int) ≤ 0; decide, by show (0:Int) < 65536; decide⟩, h.k⟩
theorem fade_st {x : Po} (h : 0 ≤ x.p11 ∧ x.p11 ≤ 2) : 0 ≤ (tick1 (fadeP x)).p11 ∧ (tick1 (fadeP x)).p11 ≤ 2 := by
  have q : ∀ z : Po, (0 ≤ z.p11 ∧ z.p11 ≤ 2) → 0 ≤ (tick1 z).p11 ∧ (tick1 z).p11 ≤ 2 := fun z h => by unfold tick1; split <;> exact h
  refine q _ ?_
  unfold fadeP
  repeat' split
  all_goals exact h
theorem fadeM_gd {t : TS} (h : Gd t) : Gd (fadeM t) ∧ (fadeM t).s.po.length = t.s.po.length ∧ (fadeM t).s.cf = t.s.cf ∧ (fadeM t).fl = t.fl ∧ (fadeM t).told = t.told := by
  have f := mapTo_is (fun _ x => tick1 (fadeP x)) t t.s.po.length
  have f : (fadeM t).s.po.length = t.s.po.length ∧ (fadeM t).s.cf = t.s.cf ∧ (fadeM t).fl = t.fl ∧ (fadeM t).told = t.told := f
  exact ⟨⟨by rw [f.1]; exact h.n, by rw [f.2.2.1]; exact h.f, by rw [f.2.2.2]; exact h.td, by rw [f.2.1]; exact h.id, map_ok h.ok (fun k x => fade_ok) _, map_st h.st (fun k x => fade_st) _⟩, f⟩
theorem choose_stB {t : TS} (hs : stB t.s.po) : stB (chooseM t).s.po := by
  rw [choose_for]
  rw [(forTell_is _ _ _).1]
  exact same_st (forChanged_same _ _ _) (as_st hs)
theorem step_st {x : Po} {d : Int} (h : 0 ≤ x.p11 ∧ x.p11 ≤ 2) : 0 ≤ (stepP x d).p11 ∧ (stepP x d).p11 ≤ 2 := by
  unfold stepP
  repeat' split
  all_goals first | exact h | exact ⟨by show (0 : Int) ≤ 1; omega, by show (1 : Int) ≤ 2; omega⟩ | exact ⟨by show (0 : Int) ≤ 2; omega, Int.le_refl _⟩
theorem tw_tick {t : TS} (h : Gd t) (hf : t.fl.length ≤ 500) : Acts 47 13 [] t (tickG t) := by
  intro c y hl
  obtain ⟨a, n, m, v2, v3, v4⟩ := c
  have hl : t.s.po.length = n := hl
  have hn : n ≤ 16 := by have := h.n; omega
  have hnn : n * n ≤ 16 * 16 := Nat.mul_le_mul hn hn
  obtain ⟨g1, l1, c1, fl1, td1⟩ := fadeM_gd h
  have L1 := fun R => wt_fade t a n m v2 v3 v4 y R hl (by omega)
  have ht0 := h.td
  unfold tickG
  obtain ⟨t1, h1⟩ : ∃ t1, fadeM t = t1 := ⟨_, rfl⟩
  rw [h1] at g1 l1 c1 fl1 td1 L1 ⊢
  have hl1 : t1.s.po.length = n := l1.trans hl
  have C2 := g1.choose ⟨a, n, m, v2, v3, v4⟩ y hl1
  have q2 := chooseM_is t1
  have r2 := choose_fl t1
  have s2 := choose_stB g1.st
  rw [hl1] at q2 r2
  obtain ⟨t2, h2⟩ : ∃ t2, chooseM t1 = t2 := ⟨_, rfl⟩
  rw [h2] at C2 q2 r2 s2 ⊢
  have hl2 : t2.s.po.length = n := q2.1
  have e3 : stepMM t2 = forTo changedM (pAt (opF t2.s.cf.p3) t2.s.po) (mapTo (stF t2.s.cf.p3) t2 n) n := by unfold stepMM; rw [foldT_mark, hl2]
  have L3 := fun R b y => wt_step t2 a n m v2 v3 v4 y R b (pAt (opF t2.s.cf.p3) t2.s.po) hl2 hn rfl
  have m3 := mapTo_is (stF t2.s.cf.p3) t2 n
  have s3 := map_st (f := stF t2.s.cf.p3) s2 (fun k x => step_st) n
  obtain ⟨f5, hf5⟩ : ∃ f, pAt (opF t2.s.cf.p3) t2.s.po = f := ⟨_, rfl⟩
  rw [hf5] at L3 e3
  obtain ⟨t3, h3⟩ : ∃ t3, mapTo (stF t2.s.cf.p3) t2 n = t3 := ⟨_, rfl⟩
  rw [h3] at m3 s3 L3 e3
  have hl3 : t3.s.po.length = n := m3.1.trans hl2
  have L4 := fun R b y => wt_changed a n m v2 v3 v4 R b f5 t3 y hl3 hn (by rw [m3.2.2.1]; have := r2.1; rw [fl1] at this; omega)
  have m4 := forChanged_is f5 t3 n
  have s4 := same_st (forChanged_same f5 t3 n) s3
  rw [e3]
  obtain ⟨t4, h4⟩ : ∃ t4, forTo changedM f5 t3 n = t4 := ⟨_, rfl⟩
  rw [h4] at m4 s4 L4 ⊢
  have hl4 : t4.s.po.length = n := m4.1.trans hl3
  dsimp only
  have L5 := fun R y => wt_beat ((t4.setBeat (IntKind.i64.wrap (t4.s.beat - 1))).setBeat t4.s.cf.p2) a n m v2 v3 v4 y R hl4 (by omega) (by show t4.told.length + n ≤ _; rw [m4.2.2, m3.2.2.2]; have := q2.2.1; rw [td1] at this; omega) s4
  obtain ⟨t5, h5⟩ : ∃ t5, beatM ((t4.setBeat (IntKind.i64.wrap (t4.s.beat - 1))).setBeat t4.s.cf.p2) = t5 := ⟨_, rfl⟩
  rw [h5] at L5
  have ed : (if (t4.setBeat (IntKind.i64.wrap (t4.s.beat - 1))).s.beat ≤ 0 then beatM ((t4.setBeat (IntKind.i64.wrap (t4.s.beat - 1))).setBeat (t4.setBeat (IntKind.i64.wrap (t4.s.beat - 1))).s.cf.p2) else t4.setBeat (IntKind.i64.wrap (t4.s.beat - 1))) = if decide (IntKind.i64.wrap (t4.s.beat - 1) > 0) = true then t4.setBeat (IntKind.i64.wrap (t4.s.beat - 1)) else t5 := by
    rw [← h5]
    by_cases hb : IntKind.i64.wrap (t4.s.beat - 1) ≤ 0
    · rw [if_pos (show (t4.setBeat (IntKind.i64.wrap (t4.s.beat - 1))).s.beat ≤ 0 from hb), if_neg (by simp; omega)]
      rfl
    · rw [if_neg (show ¬ (t4.setBeat (IntKind.i64.wrap (t4.s.beat - 1))).s.beat ≤ 0 from hb), if_pos (by simp; omega)]
  rw [ed]
  obtain ⟨D, hD⟩ : ∃ D, (if decide (IntKind.i64.wrap (t4.s.beat - 1) > 0) = true then t4.setBeat (IntKind.i64.wrap (t4.s.beat - 1)) else t5) = D := ⟨_, rfl⟩
  rw [hD]
  exact ev_acts (fun R fin => [.l _ _ _ _ _ _ (L1 R) fun _ => [oM C2 0 0 fun y1 => [oNw 117 (bA (flB f5 0)) (z117 f5) fun b => [.l _ _ _ _ _ _ (L3 R b y1) fun _ => [.l _ _ _ _ _ _ (L4 R b y1) fun y2 => [.k, .sp (decide (IntKind.i64.wrap (t4.s.beat - 1) > 0))
    (fun hb => [.b _ _ hb, fin y2 (t4.setBeat (IntKind.i64.wrap (t4.s.beat - 1))) (by rw [← hD, if_pos hb])])
    (fun hb => [.b _ _ hb, .l _ _ _ _ _ _ (L5 R y2) fun y3 => [fin y3 t5 (by rw [← hD, if_neg (by simp [hb])])]])]]]]]]) (fun R β w => by kernel_rfl)
end
end Go.Proofs.YtebnpblincgjlaaDoor
