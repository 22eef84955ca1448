import Derived.Test.YtebnpblincgjlaaDoorG15
import Derived.Test.YtebnpblincgjlaaDoorG10
set_option linter.unusedSimpArgs false
set_option linter.unusedVariables false
namespace Go.Proofs.YtebnpblincgjlaaDoor
section
/- Layer 18, by the evaluator: choose, what is assumed. -/
open Go.RowKit
open Ev
set_option maxRecDepth 100000
theorem rolesOf_len (t : TS) : (rolesOf t).length = t.s.po.length := by
 have h : (rolesK (selfN t) (rootN (selfN t) (bestOf t)) (costN (selfN t) (bestOf t)) (rpsOf t) t.s.po.length).length = t.s.po.length := tk_len _ (by unfold rpsOf; rw [rpTo_len _ (Nat.le_refl _)]; exact Nat.le_refl _)
 unfold rolesOf rolesE
 split
 ·
  rw [List.length_set]; exact h
 ·
  exact h
theorem tellsOf_len (t : TS) : (tellsOf t).length = t.s.po.length := tk_len _ (by unfold rpsOf; rw [rpTo_len _ (Nat.le_refl _)]; exact Nat.le_refl _)
theorem rpTo_mem {l : List Po} : ∀ k, ∀ z ∈ rpTo l k, ∃ (j : Nat) (x : Po), l[j]? = some x ∧ z = rpN x j
 | 0, z, h => (by cases h)
 | k + 1, z, h => by
  cases c : l[k]? with
  | none =>
   rw [show rpTo l (k + 1) = rpTo l k from by show (match l[k]? with | some x => rpTo l k ++ [rpN x k] | none => rpTo l k) = _; rw [c]] at h
   exact rpTo_mem k z h
  | some x =>
   rw [rpTo_step c] at h
   rcases List.mem_append.1 h with h | h
   ·
    exact rpTo_mem k z h
   ·
    exact ⟨k, x, c, List.mem_singleton.1 h⟩
theorem rpN_ok {x : Po} (h : okP x) (k : Nat) : (rpN x k).ok := by
 obtain ⟨⟨a1, a2⟩, ⟨b1, b2⟩, ⟨c1, c2⟩, ⟨d1, d2⟩, ⟨e1, e2⟩⟩ := h
 have i := idP_is x ((k : Int) + 1)
 refine ⟨⟨?_, ?_, ?_, ?_⟩, ?_, ?_⟩
 ·
  show x.p13.toNat < _; omega
 ·
  show x.p14.toNat < _; omega
 ·
  show x.p15.toNat < _; omega
 ·
  show x.p16.toNat < _; omega
 ·
  show x.p3.toNat < _; omega
 ·
  show (idP x ((k : Int) + 1)).toNat < _; omega
theorem okP_poU {x : Po} (h : okP x) : x = poU x (vecN x) := by
 obtain ⟨⟨a, -⟩, ⟨b, -⟩, ⟨c, -⟩, ⟨d, -⟩, -⟩ := h
 cases x
 simp only [poU, vecN] at *
 simp only [Int.toNat_of_nonneg a, Int.toNat_of_nonneg b, Int.toNat_of_nonneg c, Int.toNat_of_nonneg d]
section
variable (b : Nat) (t : TS) (c : Hp) (y : H2) (R : Bd) (Ro C : Nat) (P : Int) (h : Hd) (z : H2) (rp : List Rp) (rl : List Int) (tl : List Vc)
def c2S (T : TS) (l0 l1 : List Int) (hm : H2) (k : Nat) : Ev.St := ⟨sp 102 [(0, .v (pB b)), (5, .p 0 0), (6, .p 1 0), (53, .v (.slice c.a c.n c.m)), (54, .v (iv (c.n : Nat))), (55, .v (iv (k : Nat)))],
  [(chA Ro C P (.slice z.1.1 c.n z.1.2) (.slice z.2.1 c.n z.2.2), 79), (mkC hm l0.length l1.length, 138)],
  bdO 76 8 rpC (.slice h.1 c.n h.2) rp :: bdO 3 1 inC (.slice z.1.1 c.n z.1.2) rl :: bdO 71 4 vcC (.slice z.2.1 c.n z.2.2) tl :: (mkO hm l0 l1 ++ bdB b (acA T c y) 112 :: acO T c y ++ [R])⟩
def asT (k : Nat) : TS := mapTo (asF t) t k
def opM (k : Nat) : List Int := castI (markTo (openF t) t.s.po k)
def anM (k : Nat) : List Int := castI (markTo (anewF t) t.s.po k)
theorem assume_loop (hl : t.s.po.length = c.n) (hn : c.n ≤ 1000) (hok : ∀ (k : Nat) (x : Po), t.s.po[k]? = some x → okP x) (hrl : rl = rolesOf t) (htl : tl = tellsOf t) : TY Tryd.prog 0 (.loop (loopN Tryd.prog 31 1)) (c2S b c y R Ro C P h z rp rl tl t [] [] ((none, 0), (none, 0)) 0) H2 (.exit 2) (fun hm => c2S b c y R Ro C P h z rp rl tl (asT t c.n) (opM t c.n) (anM t c.n) hm c.n) := by
  refine T_loop (I := {k : Nat // k ≤ c.n} × H2) (fun j => c2S b c y R Ro C P h z rp rl tl (asT t j.1.1) (opM t j.1.1) (anM t j.1.1) j.2 j.1.1) (fun j => c.n - j.1.1) (by simp) _ (fun ⟨⟨k, hk⟩, hm⟩ => ?_) (⟨0, Nat.zero_le _⟩, ((none, 0), (none, 0)))
  have f := mapTo_is (asF t) t k
  have e1 : asT t (k + 1) = mapStep (asF t) (asT t k) k := rfl
  by_cases hkn : k < c.n
  · obtain ⟨T, hT⟩ : ∃ T, asT t k = T := ⟨_, rfl⟩
    have hx0 : (asT t k).s.po[k]? = t.s.po[k]? := by unfold asT; rw [mapTo_get, if_neg (Nat.lt_irrefl _)]
    have f : T.s.po.length = t.s.po.length ∧ T.s.cf = t.s.cf := by rw [← hT]; exact ⟨f.1, f.2.1⟩
    rw [hT] at e1 hx0
    have hlT : T.s.po.length = c.n := f.1.trans hl
    obtain ⟨x, hx⟩ : ∃ x, T.s.po[k]? = some x := ⟨_, List.getElem?_eq_getElem (by omega)⟩
    have hxt : t.s.po[k]? = some x := by rw [← hx0]; exact hx
    have hx2 : T.s.po[k]? = some (poU x (vecN x)) := by rw [hx]; exact congrArg some (okP_poU (hok k x hxt))
    have hr1 : rl.length = c.n := by rw [hrl, rolesOf_len]; exact hl
    have ht1 : tl.length = c.n := by rw [htl, tellsOf_len]; exact hl
    obtain ⟨r, hr⟩ : ∃ r, rl[k]? = some r := ⟨_, List.getElem?_eq_getElem (by omega)⟩
    obtain ⟨v, hv⟩ : ∃ v, tl[k]? = some v := ⟨_, List.getElem?_eq_getElem (by omega)⟩
    have er : (rolesOf t).getD k 0 = r := by rw [← hrl, List.getD_eq_getElem?_getD, hr]; rfl
    have ev : (tellsOf t).getD k ⟨0, 0, 0, 0⟩ = v := by rw [← htl, List.getD_eq_getElem?_getD, hv]; rfl
    have d : decide ((k : Int) < (c.n : Int)) = true := by simp; omega
    have hlt : c.n - (k + 1) < c.n - k := by omega
    rw [mapStep_some hx] at e1
    have ea : asF t k x = assumeP x (vecN x) r v T.s.cf.p3 := by unfold asF; rw [er, ev, f.2]
    rw [ea] at e1
    have hc := assume_any x (vecN x) r v T.s.cf
    obtain ⟨M0, hM0⟩ : ∃ M, opM t k = M := ⟨_, rfl⟩
    obtain ⟨M1, hM1⟩ : ∃ M, anM t k = M := ⟨_, rfl⟩
    have hml0 : M0.length ≤ 1900 := by rw [← hM0]; unfold opM; rw [castI_len]; have := (markTo_lt (p := openF t) (l := t.s.po) k).2; omega
    have hml1 : M1.length ≤ 1900 := by rw [← hM1]; unfold anM; rw [castI_len]; have := (markTo_lt (p := anewF t) (l := t.s.po) k).2; omega
    obtain ⟨X, hX⟩ : ∃ X, assumeP x (vecN x) r v T.s.cf.p3 = X := ⟨_, rfl⟩
    have en : anewF t k x = assumeN x (vecN x) r v := by unfold anewF; rw [er, ev]
    have eo : openF t k x = openedB x X := by unfold openF; rw [ea, hX]
    rw [hX] at e1 hc
    cases hA : assumeN x (vecN x) r v <;> cases hO : openedB x X <;> rw [hA, hO] at hc
    · have q1 : anM t (k + 1) = M1 := by rw [← hM1]; exact markTo_no hxt (by rw [en]; exact hA)
      have q0 : opM t (k + 1) = M0 := by rw [← hM0]; exact markTo_no hxt (by rw [eo]; exact hO)
      refine step_at (c2S b c y R Ro C P h z rp rl tl T M0 M1 hm k) (by rw [← hT, ← hM0, ← hM1]) ?_ ?_ (Nat.zero_le _)
      exact fun go out => [.b _ _ d, oJx poE 6 c.a c.n c.m hkn hlT, oJd poE 6 c.a c.n c.m hx2 hlT, oJx inE 1 z.1.1 c.n z.1.2 hkn hr1, oJd inE 1 z.1.1 c.n z.1.2 hr hr1, oJx vcE 2 z.2.1 c.n z.2.2 hkn ht1, oJd vcE 2 z.2.1 c.n z.2.2 hv ht1,
        oBr (b := b) (cs := acA T c y) (ty := 112) 5 31 0 (cfC T.s.cf) cf_row cf_size (ac_cf T c y), .c _ _ _ hc,
        oBl (b := b) (cs := acA T c y) (ty := 112) 5 32 6 (.slice c.a c.n c.m) rfl plain32, oJx poE 6 c.a c.n c.m hkn hlT, oJt poE 6 c.a c.n c.m X hkn hlT rfl,
        oM (mark_no 1 k hm M0 M1) 1 3 fun _ => [oM (mark_no 0 k hm M0 M1) 1 3 fun _ => [.r _ _ (wrap_next hkn (by omega)), go (⟨k + 1, hkn⟩, hm) hlt (c2S b c y R Ro C P h z rp rl tl (T.setPo (T.s.po.set k X)) M0 M1 hm (k + 1)) (by show _ = c2S b c y R Ro C P h z rp rl tl (asT t (k + 1)) (opM t (k + 1)) (anM t (k + 1)) _ _; rw [e1, q0, q1])]]]
      intro _ _; kernel_rfl
    · have q1 : anM t (k + 1) = M1 := by rw [← hM1]; exact markTo_no hxt (by rw [en]; exact hA)
      have q0 : opM t (k + 1) = M0 ++ [(k : Int)] := by rw [← hM0]; exact markTo_yes hxt (by rw [eo]; exact hO)
      refine step_at (c2S b c y R Ro C P h z rp rl tl T M0 M1 hm k) (by rw [← hT, ← hM0, ← hM1]) ?_ ?_ (Nat.zero_le _)
      exact fun go out => [.b _ _ d, oJx poE 6 c.a c.n c.m hkn hlT, oJd poE 6 c.a c.n c.m hx2 hlT, oJx inE 1 z.1.1 c.n z.1.2 hkn hr1, oJd inE 1 z.1.1 c.n z.1.2 hr hr1, oJx vcE 2 z.2.1 c.n z.2.2 hkn ht1, oJd vcE 2 z.2.1 c.n z.2.2 hv ht1,
        oBr (b := b) (cs := acA T c y) (ty := 112) 5 31 0 (cfC T.s.cf) cf_row cf_size (ac_cf T c y), .c _ _ _ hc,
        oBl (b := b) (cs := acA T c y) (ty := 112) 5 32 6 (.slice c.a c.n c.m) rfl plain32, oJx poE 6 c.a c.n c.m hkn hlT, oJt poE 6 c.a c.n c.m X hkn hlT rfl,
        oM (mark_no 1 k hm M0 M1) 1 3 fun _ => [oM (mark0_yes k hm M0 M1 hml0) 1 3 fun g0 => [.r _ _ (wrap_next hkn (by omega)), go (⟨k + 1, hkn⟩, (g0, hm.2)) hlt (c2S b c y R Ro C P h z rp rl tl (T.setPo (T.s.po.set k X)) (M0 ++ [(k : Int)]) M1 (g0, hm.2) (k + 1)) (by show _ = c2S b c y R Ro C P h z rp rl tl (asT t (k + 1)) (opM t (k + 1)) (anM t (k + 1)) _ _; rw [e1, q0, q1])]]]
      intro _ _; kernel_rfl
    · have q1 : anM t (k + 1) = M1 ++ [(k : Int)] := by rw [← hM1]; exact markTo_yes hxt (by rw [en]; exact hA)
      have q0 : opM t (k + 1) = M0 := by rw [← hM0]; exact markTo_no hxt (by rw [eo]; exact hO)
      refine step_at (c2S b c y R Ro C P h z rp rl tl T M0 M1 hm k) (by rw [← hT, ← hM0, ← hM1]) ?_ ?_ (Nat.zero_le _)
      exact fun go out => [.b _ _ d, oJx poE 6 c.a c.n c.m hkn hlT, oJd poE 6 c.a c.n c.m hx2 hlT, oJx inE 1 z.1.1 c.n z.1.2 hkn hr1, oJd inE 1 z.1.1 c.n z.1.2 hr hr1, oJx vcE 2 z.2.1 c.n z.2.2 hkn ht1, oJd vcE 2 z.2.1 c.n z.2.2 hv ht1,
        oBr (b := b) (cs := acA T c y) (ty := 112) 5 31 0 (cfC T.s.cf) cf_row cf_size (ac_cf T c y), .c _ _ _ hc,
        oBl (b := b) (cs := acA T c y) (ty := 112) 5 32 6 (.slice c.a c.n c.m) rfl plain32, oJx poE 6 c.a c.n c.m hkn hlT, oJt poE 6 c.a c.n c.m X hkn hlT rfl,
        oM (mark1_yes k hm M0 M1 hml1) 1 3 fun g1 => [oM (mark_no 0 k (hm.1, g1) M0 (M1 ++ [(k : Int)])) 1 3 fun _ => [.r _ _ (wrap_next hkn (by omega)), go (⟨k + 1, hkn⟩, (hm.1, g1)) hlt (c2S b c y R Ro C P h z rp rl tl (T.setPo (T.s.po.set k X)) M0 (M1 ++ [(k : Int)]) (hm.1, g1) (k + 1)) (by show _ = c2S b c y R Ro C P h z rp rl tl (asT t (k + 1)) (opM t (k + 1)) (anM t (k + 1)) _ _; rw [e1, q0, q1])]]]
      intro _ _; kernel_rfl
    · have q1 : anM t (k + 1) = M1 ++ [(k : Int)] := by rw [← hM1]; exact markTo_yes hxt (by rw [en]; exact hA)
      have q0 : opM t (k + 1) = M0 ++ [(k : Int)] := by rw [← hM0]; exact markTo_yes hxt (by rw [eo]; exact hO)
      refine step_at (c2S b c y R Ro C P h z rp rl tl T M0 M1 hm k) (by rw [← hT, ← hM0, ← hM1]) ?_ ?_ (Nat.zero_le _)
      exact fun go out => [.b _ _ d, oJx poE 6 c.a c.n c.m hkn hlT, oJd poE 6 c.a c.n c.m hx2 hlT, oJx inE 1 z.1.1 c.n z.1.2 hkn hr1, oJd inE 1 z.1.1 c.n z.1.2 hr hr1, oJx vcE 2 z.2.1 c.n z.2.2 hkn ht1, oJd vcE 2 z.2.1 c.n z.2.2 hv ht1,
        oBr (b := b) (cs := acA T c y) (ty := 112) 5 31 0 (cfC T.s.cf) cf_row cf_size (ac_cf T c y), .c _ _ _ hc,
        oBl (b := b) (cs := acA T c y) (ty := 112) 5 32 6 (.slice c.a c.n c.m) rfl plain32, oJx poE 6 c.a c.n c.m hkn hlT, oJt poE 6 c.a c.n c.m X hkn hlT rfl,
        oM (mark1_yes k hm M0 M1 hml1) 1 3 fun g1 => [oM (mark0_yes k (hm.1, g1) M0 (M1 ++ [(k : Int)]) hml0) 1 3 fun g0 => [.r _ _ (wrap_next hkn (by omega)), go (⟨k + 1, hkn⟩, (g0, (hm.1, g1).2)) hlt (c2S b c y R Ro C P h z rp rl tl (T.setPo (T.s.po.set k X)) (M0 ++ [(k : Int)]) (M1 ++ [(k : Int)]) (g0, (hm.1, g1).2) (k + 1)) (by show _ = c2S b c y R Ro C P h z rp rl tl (asT t (k + 1)) (opM t (k + 1)) (anM t (k + 1)) _ _; rw [e1, q0, q1])]]]
      intro _ _; kernel_rfl
  · obtain rfl : k = c.n := by omega
    refine step_at _ rfl ?_ ?_ (Nat.zero_le _)
    exact fun go out => [.b _ _ (show decide ((c.n : Int) < (c.n : Int)) = false by simp), out hm _ rfl]
    intro _ _; kernel_rfl
end
end
section
/- Layer 18, by the evaluator: choose, whole. -/
open Go.RowKit
open Ev
set_option maxRecDepth 100000
theorem tell_does {n : Nat} {idx : List Nat} {t0 : Nat} (hi : ∀ i ∈ idx, i < n) (hn : n ≤ 1000) (hx : idx.length ≤ n) (hf : t0 + n ≤ 1900) : Does 60 tellM (fun k T => T.told.length ≤ t0 + k ∧ rolesB T.s.po) n idx := by
  intro k T i hG hl hk
  have hin := hi i (List.mem_of_getElem? hk)
  have hkl := (List.getElem?_eq_some_iff.1 hk).1
  have b := tellM_is T i
  have g1 := hG.1
  obtain ⟨x, hx⟩ : ∃ x, T.s.po[i]? = some x := ⟨_, List.getElem?_eq_getElem (by omega)⟩
  refine ⟨tell_acts hx (hG.2 i x hx) (by omega) (by omega), ⟨?_, by rw [b.1]; exact hG.2⟩, by rw [b.1]; exact hl⟩
  have := b.2.2
  omega
theorem each1_drop {b : Nat} {F : FuncId} {Tf : TS → Nat → TS} {G : Nat → TS → Prop} {idx : List Nat} {lo : List Int} {y : H2} {c : Hp} (hF : F = 59 ∨ F = 60) (hd : Does F Tf G c.n idx) {t : TS} (g : G 0 t) (hl : t.s.po.length = c.n) (hn : (castI idx).length ≤ 1000) (z0 : H2) : Meth Tryd.prog 58 [iv 1, .func (.func F) #[pB b] #[]] (mkC y lo.length (castI idx).length) 138 (ea1A b idx lo y c t z0) H2 (fun _ => .tuple #[]) (fun _ => mkC y lo.length (castI idx).length) (fun z => bdB b (acA (foldT Tf t idx (castI idx).length) c z) 112 :: acO (foldT Tf t idx (castI idx).length) c z) :=
  (Meth.drop (Meth.drop (each1_meth b F Tf G idx lo y c hF hd g hl hn z0)))
theorem plain29 : plainT (Tryd.prog.underlying 29) = true := by kernel_rfl
theorem roles_kept {l l' : List Po} (h : sameBut l l') (hr : rolesB l) : rolesB l' := fun k y hy => by
  have hk : k < l.length := by rw [h.1]; exact (List.getElem?_eq_some_iff.1 hy).1
  obtain ⟨z, hz, q, e⟩ := h.2 k l[k] (List.getElem?_eq_getElem hk)
  rw [hz] at hy
  injection hy with hy
  rw [← hy, e]
  exact (hr k l[k] (List.getElem?_eq_getElem hk) : _)
theorem roles_as (t : TS) : rolesB (mapTo (asF t) t t.s.po.length).s.po := fun k y hy => by
  rw [mapTo_get] at hy
  split at hy
  · obtain ⟨x, hx, rfl⟩ := Option.map_eq_some_iff.1 hy
    have e : (asF t k x).p10 = (rolesOf t).getD k 0 := assume_role _ _ _ _ _
    rw [e]
    exact rolesOf_is t k
  · next h => exact absurd (List.getElem?_eq_some_iff.1 hy).1 h
theorem choose_acts {t : TS} (hn : t.s.po.length ≤ 1000) (hf : t.fl.length + (t.s.po.length + 1) * t.s.po.length ≤ 1900) (ht : t.told.length + t.s.po.length ≤ 1900) (hid : 0 ≤ t.s.cf.p0) (hok : ∀ (k : Nat) (x : Po), t.s.po[k]? = some x → okP x) : Acts 112 31 [] t (chooseM t) := by
  intro c y hl
  obtain ⟨a, n, m, v2, v3, v4⟩ := c
  have hl : t.s.po.length = n := hl
  subst hl
  obtain ⟨o, ho⟩ : ∃ o, markTo (openF t) t.s.po t.s.po.length = o := ⟨_, rfl⟩
  obtain ⟨an, han⟩ : ∃ an, markTo (anewF t) t.s.po t.s.po.length = an := ⟨_, rfl⟩
  have lo := markTo_lt (p := openF t) (l := t.s.po) t.s.po.length
  have la := markTo_lt (p := anewF t) (l := t.s.po) t.s.po.length
  rw [ho] at lo
  rw [han] at la
  have m1 := mapTo_is (asF t) t t.s.po.length
  have r1 := roles_as t
  have e0 : chooseM t = foldT tellM (foldT changedM (mapTo (asF t) t t.s.po.length) o (castI o).length) an (castI an).length := by
    rw [castI_len, castI_len, ← ho, ← han]
    rfl
  have eo : opM t t.s.po.length = castI o := by unfold opM; rw [ho]
  have ea : anM t t.s.po.length = castI an := by unfold anM; rw [han]
  obtain ⟨t1, ht1⟩ : ∃ t1, mapTo (asF t) t t.s.po.length = t1 := ⟨_, rfl⟩
  rw [ht1] at m1 r1 e0
  have m2 := foldChanged_is t1 o (castI o).length
  have r2 := roles_kept (foldChanged_same t1 o (castI o).length) r1
  obtain ⟨t2, ht2⟩ : ∃ t2, foldT changedM t1 o (castI o).length = t2 := ⟨_, rfl⟩
  rw [ht2] at m2 r2 e0
  rw [e0]
  refine Meth_out fun b => ?_
  have hp := ports_loop b t ⟨a, t.s.po.length, m, v2, v3, v4⟩ y
  have hc := fun h : Hd => choose_fun (selfN t) (rpsOf t) h.1 t.s.po.length h.2 (rpTo_len _ (Nat.le_refl _)) hn (fun z hz => by obtain ⟨j, x, hx, rfl⟩ := rpTo_mem _ z hz; exact rpN_ok (hok j x hx) j) (F := bestOf t) rfl
  have ha := fun R Ro C P h z => assume_loop b t ⟨a, t.s.po.length, m, v2, v3, v4⟩ y R Ro C P h z (rpsOf t) (rolesOf t) (tellsOf t) rfl hn hok rfl rfl
  rw [eo, ea, show asT t t.s.po.length = t1 from ht1] at ha
  have d0 := changed_does (n := t.s.po.length) (idx := o) (f0 := t.fl.length) lo.1 hn lo.2 hf
  have d1 := tell_does (n := t.s.po.length) (idx := an) (t0 := t.told.length) la.1 hn la.2 ht
  have h0 := fun hm : H2 => each0_meth b 59 changedM _ o (castI an) hm ⟨a, t.s.po.length, m, v2, v3, v4⟩ (.inl rfl) d0 (t := t1) (by show t1.fl.length ≤ _; rw [m1.2.2.1]; omega) m1.1 (by rw [castI_len]; omega) y
  rw [ht2] at h0
  have h1 := fun (hm z : H2) => each1_drop (b := b) (F := 60) (idx := an) (lo := castI o) (y := hm) (c := ⟨a, t.s.po.length, m, v2, v3, v4⟩) (.inr rfl) d1 (t := t2) ⟨by rw [m2.2.2.2, m1.2.2.2]; omega, r2⟩ (m2.1.trans m1.1) (by rw [castI_len]; omega) z
  have es : (acA t ⟨a, t.s.po.length, m, v2, v3, v4⟩ y)[0]? = some (.int .u64 (selfN t : Nat)) := by
    show some (Value.int .u64 t.s.cf.p0) = _
    unfold selfN
    rw [Int.toNat_of_nonneg hid]
  exact ev_fun (fun R fin => [.a 0 _ _ (nil_own 76 8 rpC []), oBl (b := b) (cs := acA t ⟨a, t.s.po.length, m, v2, v3, v4⟩ y) (ty := 112) 1 32 6 (.slice a t.s.po.length m) rfl plain32, .l _ _ _ _ _ _ (hp R rfl hn hok) fun h => [
    oBl (b := b) (cs := acA t ⟨a, t.s.po.length, m, v2, v3, v4⟩ y) (ty := 112) 1 29 0 (.int .u64 (selfN t : Nat)) es plain29, oF (hc h) ((none, 0), (none, 0)) 0 fun z => [
    .a 3 _ _ (nil_own 3 1 inC []), .a 3 _ _ (nil_own 3 1 inC []), oBl (b := b) (cs := acA t ⟨a, t.s.po.length, m, v2, v3, v4⟩ y) (ty := 112) 5 32 6 (.slice a t.s.po.length m) rfl plain32,
    .l _ _ _ _ _ _ (ha R (rootN (selfN t) (bestOf t)) (costN (selfN t) (bestOf t)) (portN (selfN t) (bestOf t)) h z) fun hm => [
    oM (h0 hm) 1 3 fun z1 => [.a 0 [bdO 76 8 rpC (.slice h.1 t.s.po.length h.2) (rpsOf t), bdO 3 1 inC (.slice z.1.1 t.s.po.length z.1.2) (rolesOf t), bdO 71 4 vcC (.slice z.2.1 t.s.po.length z.2.2) (tellsOf t)] [] (fun _ _ _ _ K => drop_one (drop_one (drop_one K))), oM (h1 hm z1) 1 0 fun z2 => [fin z2]]]]]]) (fun R β w => by kernel_rfl)
end
section
/- Layer 18, by the evaluator: take. -/
open Go.RowKit
open Ev
set_option maxRecDepth 100000
def takeM (t : TS) (i : Nat) (q : Pd) (v : Vc) : TS := match t.s.po[i]? with
 | some y =>
  let t1 := t.setPo (t.s.po.set i (hearP y (vecN y) v (IntKind.i64.wrap q.p12) t.s.cf))
  let k := hearN y (vecN y) v (IntKind.i64.wrap q.p12) t.s.cf
  if k = 1 then (if (hearP y (vecN y) v (IntKind.i64.wrap q.p12) t.s.cf).p10 = 4 then tellM t1 i else t1)
  else if k = 2 ∨ k = 3 then (if q.p2 = true then answerM (chooseM t1) i else chooseM t1)
  else t1
 | none => t
def plainP (x : Po) : Po := { x with p8 := false }
def hearM (t : TS) (i : Nat) (q : Pd) (v : Vc) : TS := match t.s.po[i]? with
 | some y =>
  let t1 := t.setPo (t.s.po.set i (plainP y))
  let t2 := if q.p0 = 128 ∨ q.p1 = true then spreadM t1 i else t1
  if q.p0 = 128 then t2 else if q.p0 = 2 ∧ (q.p7 = 2 ∨ q.p7 = 1) then agreeM t2 i q v else takeM t2 i q v
 | none => t
theorem hearN_is (x : Po) (u v : Vc) (a : Int) (c : Cf) : hearN x u v a c = 0 ∨ hearN x u v a c = 1 ∨ hearN x u v a c = 2 ∨ hearN x u v a c = 3 := by
 unfold hearN
 split
 ·
  exact .inl rfl
 ·
  split
  ·
   split
   ·
    exact .inr (.inr (.inl rfl))
   ·
    exact .inr (.inr (.inr rfl))
  ·
   exact .inr (.inl rfl)
theorem takeM_some {t : TS} {i : Nat} {x : Po} {u : Vc} (q : Pd) (v : Vc) (h : t.s.po[i]? = some (poU x u)) : takeM t i q v =
 if hearN x u v (IntKind.i64.wrap q.p12) t.s.cf = 1 then (if (hearP x u v (IntKind.i64.wrap q.p12) t.s.cf).p10 = 4 then tellM (t.setPo (t.s.po.set i (hearP x u v (IntKind.i64.wrap q.p12) t.s.cf))) i else t.setPo (t.s.po.set i (hearP x u v (IntKind.i64.wrap q.p12) t.s.cf)))
 else if hearN x u v (IntKind.i64.wrap q.p12) t.s.cf = 2 ∨ hearN x u v (IntKind.i64.wrap q.p12) t.s.cf = 3 then (if q.p2 = true then answerM (chooseM (t.setPo (t.s.po.set i (hearP x u v (IntKind.i64.wrap q.p12) t.s.cf)))) i else chooseM (t.setPo (t.s.po.set i (hearP x u v (IntKind.i64.wrap q.p12) t.s.cf))))
 else t.setPo (t.s.po.set i (hearP x u v (IntKind.i64.wrap q.p12) t.s.cf)) := by
 unfold takeM
 rw [h]
 rfl
theorem chooseM_is (t : TS) : (chooseM t).s.po.length = t.s.po.length ∧ (chooseM t).told.length ≤ t.told.length + t.s.po.length ∧ rolesB (chooseM t).s.po := by
  have la := markTo_lt (p := anewF t) (l := t.s.po) t.s.po.length
  have m1 := mapTo_is (asF t) t t.s.po.length
  have r1 := roles_as t
  have m2 := foldChanged_is (mapTo (asF t) t t.s.po.length) (markTo (openF t) t.s.po t.s.po.length) (markTo (openF t) t.s.po t.s.po.length).length
  have r2 := roles_kept (foldChanged_same (mapTo (asF t) t t.s.po.length) (markTo (openF t) t.s.po t.s.po.length) (markTo (openF t) t.s.po t.s.po.length).length) r1
  have m3 := foldTell_is (foldT changedM (mapTo (asF t) t t.s.po.length) (markTo (openF t) t.s.po t.s.po.length) (markTo (openF t) t.s.po t.s.po.length).length) (markTo (anewF t) t.s.po t.s.po.length) (markTo (anewF t) t.s.po t.s.po.length).length
  refine ⟨?_, ?_, ?_⟩
  · show (foldT tellM _ _ _).s.po.length = _
    rw [m3.1, m2.1, m1.1]
  · have q := m3.2.2
    rw [m2.2.2.2, m1.2.2.2] at q
    show (foldT tellM _ _ _).told.length ≤ _
    omega
  · show rolesB (foldT tellM _ _ _).s.po
    rw [m3.1]
    exact r2
theorem take_acts {t : TS} {i : Nat} {x : Po} {u : Vc} (q : Pd) (v : Vc) (hx : t.s.po[i]? = some (poU x u)) (hok : ∀ (k : Nat) (y : Po), (t.s.po.set i (hearP x u v (IntKind.i64.wrap q.p12) t.s.cf))[k]? = some y → okP y) (hid : 0 ≤ t.s.cf.p0) (hn : t.s.po.length ≤ 1000) (hf : t.fl.length + (t.s.po.length + 1) * t.s.po.length ≤ 1900) (ht : t.told.length + t.s.po.length ≤ 1900) : Acts 112 65 [iv (i : Nat), pdV (pdU q v)] t (takeM t i q v) := by
  intro c y hl
  obtain ⟨a, n, m, v2, v3, v4⟩ := c
  have hl : t.s.po.length = n := hl
  subst hl
  have hk := (List.getElem?_eq_some_iff.1 hx).1
  rw [takeM_some q v hx]
  have hc := hear_any x u v (IntKind.i64.wrap q.p12) t.s.cf
  obtain ⟨X, hX⟩ : ∃ X, hearP x u v (IntKind.i64.wrap q.p12) t.s.cf = X := ⟨_, rfl⟩
  rw [hX] at hc hok ⊢
  have hset : (t.setPo (t.s.po.set i X)).s.po.length = t.s.po.length := List.length_set
  have hx1 : (t.setPo (t.s.po.set i X)).s.po[i]? = some X := List.getElem?_set_self hk
  rcases hearN_is x u v (IntKind.i64.wrap q.p12) t.s.cf with h0 | h0 | h0 | h0 <;> rw [h0] at hc ⊢
  · rw [if_neg (by decide), if_neg (by decide)]
    exact ev_meth (fun R fin => [oJx poE 0 a t.s.po.length m hk rfl, oJd poE 0 a t.s.po.length m hx rfl, .c _ _ _ (told_pd q v), .k, .c _ _ _ hc, oJx poE 0 a t.s.po.length m hk rfl, oJt poE 0 a t.s.po.length m X hk rfl rfl, No, No, No, fin y]) (fun R β w => by kernel_rfl)
  · rw [if_pos rfl]
    by_cases h4 : X.p10 = 4
    · rw [if_pos h4]
      have ha := tell_acts hx1 (by omega) (by rw [hset]; exact hn) (by show t.told.length ≤ _; omega) ⟨a, t.s.po.length, m, v2, v3, v4⟩ y hset
      exact ev_meth (fun R fin => [oJx poE 0 a t.s.po.length m hk rfl, oJd poE 0 a t.s.po.length m hx rfl, .c _ _ _ (told_pd q v), .k, .c _ _ _ hc, oJx poE 0 a t.s.po.length m hk rfl, oJt poE 0 a t.s.po.length m X hk rfl rfl, Yes, .b _ _ (decide_eq_true h4), oM ha 0 0 fun z => [fin z]]) (fun R β w => by kernel_rfl)
    · rw [if_neg h4]
      exact ev_meth (fun R fin => [oJx poE 0 a t.s.po.length m hk rfl, oJd poE 0 a t.s.po.length m hx rfl, .c _ _ _ (told_pd q v), .k, .c _ _ _ hc, oJx poE 0 a t.s.po.length m hk rfl, oJt poE 0 a t.s.po.length m X hk rfl rfl, Yes, .b _ _ (decide_eq_false h4), fin y]) (fun R β w => by kernel_rfl)
  · rw [if_neg (by decide), if_pos (by decide)]
    have ha := choose_acts (t := t.setPo (t.s.po.set i X)) (by rw [hset]; exact hn) (by rw [hset]; exact hf) (by rw [hset]; exact ht) hid hok ⟨a, t.s.po.length, m, v2, v3, v4⟩ y hset
    have f := chooseM_is (t.setPo (t.s.po.set i X))
    obtain ⟨T, hT⟩ : ∃ T, chooseM (t.setPo (t.s.po.set i X)) = T := ⟨_, rfl⟩
    rw [hT] at ha f ⊢
    rw [hset] at f
    cases hq : q.p2
    · rw [if_neg (by decide)]
      exact ev_meth (fun R fin => [oJx poE 0 a t.s.po.length m hk rfl, oJd poE 0 a t.s.po.length m hx rfl, .c _ _ _ (told_pd q v), .k, .c _ _ _ hc, oJx poE 0 a t.s.po.length m hk rfl, oJt poE 0 a t.s.po.length m X hk rfl rfl, No, Yes, Yes, oM ha 0 0 fun z => [.b _ _ hq, fin z]]) (fun R β w => by kernel_rfl)
    · rw [if_pos rfl]
      obtain ⟨zp, hz⟩ : ∃ zp, T.s.po[i]? = some zp := ⟨_, List.getElem?_eq_getElem (by rw [f.1]; exact hk)⟩
      have hb := fun z : H2 => answer_acts hz (f.2.2 i zp hz) (by rw [f.1]; exact hn) (by have q1 : T.told.length ≤ t.told.length + t.s.po.length := f.2.1; omega) ⟨a, t.s.po.length, m, v2, v3, v4⟩ z f.1
      exact ev_meth (fun R fin => [oJx poE 0 a t.s.po.length m hk rfl, oJd poE 0 a t.s.po.length m hx rfl, .c _ _ _ (told_pd q v), .k, .c _ _ _ hc, oJx poE 0 a t.s.po.length m hk rfl, oJt poE 0 a t.s.po.length m X hk rfl rfl, No, Yes, Yes, oM ha 0 0 fun z => [.b _ _ hq, oM (hb z) 0 0 fun z2 => [fin z2]]]) (fun R β w => by kernel_rfl)
  · rw [if_neg (by decide), if_pos (by decide)]
    have ha := choose_acts (t := t.setPo (t.s.po.set i X)) (by rw [hset]; exact hn) (by rw [hset]; exact hf) (by rw [hset]; exact ht) hid hok ⟨a, t.s.po.length, m, v2, v3, v4⟩ y hset
    have f := chooseM_is (t.setPo (t.s.po.set i X))
    obtain ⟨T, hT⟩ : ∃ T, chooseM (t.setPo (t.s.po.set i X)) = T := ⟨_, rfl⟩
    rw [hT] at ha f ⊢
    rw [hset] at f
    cases hq : q.p2
    · rw [if_neg (by decide)]
      exact ev_meth (fun R fin => [oJx poE 0 a t.s.po.length m hk rfl, oJd poE 0 a t.s.po.length m hx rfl, .c _ _ _ (told_pd q v), .k, .c _ _ _ hc, oJx poE 0 a t.s.po.length m hk rfl, oJt poE 0 a t.s.po.length m X hk rfl rfl, No, No, Yes, oM ha 0 0 fun z => [.b _ _ hq, fin z]]) (fun R β w => by kernel_rfl)
    · rw [if_pos rfl]
      obtain ⟨zp, hz⟩ : ∃ zp, T.s.po[i]? = some zp := ⟨_, List.getElem?_eq_getElem (by rw [f.1]; exact hk)⟩
      have hb := fun z : H2 => answer_acts hz (f.2.2 i zp hz) (by rw [f.1]; exact hn) (by have q1 : T.told.length ≤ t.told.length + t.s.po.length := f.2.1; omega) ⟨a, t.s.po.length, m, v2, v3, v4⟩ z f.1
      exact ev_meth (fun R fin => [oJx poE 0 a t.s.po.length m hk rfl, oJd poE 0 a t.s.po.length m hx rfl, .c _ _ _ (told_pd q v), .k, .c _ _ _ hc, oJx poE 0 a t.s.po.length m hk rfl, oJt poE 0 a t.s.po.length m X hk rfl rfl, No, No, Yes, oM ha 0 0 fun z => [.b _ _ hq, oM (hb z) 0 0 fun z2 => [fin z2]]]) (fun R β w => by kernel_rfl)
end
section
/- Layer 18, by the evaluator: hear. -/
open Go.RowKit
open Ev
set_option maxRecDepth 100000
theorem hearM_some {t : TS} {i : Nat} {x : Po} {u : Vc} (q : Pd) (v : Vc) (h : t.s.po[i]? = some (poU x u)) : hearM t i q v =
 if q.p0 = 128 then (if q.p0 = 128 ∨ q.p1 = true then spreadM (t.setPo (t.s.po.set i (poU (plainP x) u))) i else t.setPo (t.s.po.set i (poU (plainP x) u)))
 else if q.p0 = 128 ∨ q.p1 = true then (if q.p0 = 2 ∧ (q.p7 = 2 ∨ q.p7 = 1) then agreeM (spreadM (t.setPo (t.s.po.set i (poU (plainP x) u))) i) i q v else takeM (spreadM (t.setPo (t.s.po.set i (poU (plainP x) u))) i) i q v)
 else (if q.p0 = 2 ∧ (q.p7 = 2 ∨ q.p7 = 1) then agreeM (t.setPo (t.s.po.set i (poU (plainP x) u))) i q v else takeM (t.setPo (t.s.po.set i (poU (plainP x) u))) i q v) := by
 have e : hearM t i q v = (let t1 := t.setPo (t.s.po.set i (poU (plainP x) u)); let t2 := if q.p0 = 128 ∨ q.p1 = true then spreadM t1 i else t1; if q.p0 = 128 then t2 else if q.p0 = 2 ∧ (q.p7 = 2 ∨ q.p7 = 1) then agreeM t2 i q v else takeM t2 i q v) := by
  unfold hearM
  rw [h]
  rfl
 rw [e]
 by_cases c : q.p0 = 128 ∨ q.p1 = true
 ·
  simp only [if_pos c]
 ·
  simp only [if_neg c]
theorem set_cases {l : List Po} {i k : Nat} {z y : Po} (h : (l.set i z)[k]? = some y) : (k = i ∧ y = z) ∨ l[k]? = some y := by
 by_cases e : i = k
 ·
  subst e
  have hl : i < (l.set i z).length := (List.getElem?_eq_some_iff.1 h).1
  rw [List.length_set] at hl
  rw [List.getElem?_set_self hl] at h
  injection h with h
  exact .inl ⟨rfl, h.symm⟩
 ·
  rw [List.getElem?_set_ne e] at h
  exact .inr h
theorem okP_plain {x : Po} {u : Vc} (h : okP (poU x u)) : okP (poU (plainP x) u) := ⟨h.r, h.c, h.b, h.p, h.k⟩
theorem okP_ch {x : Po} {k : Int} (h : okP x) : okP (chP x k) := ⟨h.r, h.c, h.b, h.p, h.k⟩
theorem okP_hear {x : Po} {u v : Vc} {a : Int} {c : Cf} (h : okP (poU x u)) (hv : v.ok) : okP (hearP x u v a c) := by
 obtain ⟨v1, v2, v3, v4⟩ := hv
 unfold hearP
 split
 ·
  exact h
 ·
  split
  ·
   refine ⟨?_, ?_, ?_, ?_, h.k⟩
   ·
    show 0 ≤ (v.r : Int) ∧ (v.r : Int) < _; omega
   ·
    show 0 ≤ (v.c : Int) ∧ (v.c : Int) < _; omega
   ·
    show 0 ≤ (v.b : Int) ∧ (v.b : Int) < _; omega
   ·
    show 0 ≤ (v.p : Int) ∧ (v.p : Int) < _; omega
  ·
   exact h
theorem sprTo_same (h : Int) (i : Nat) (t : TS) : ∀ k, sameBut t.s.po (sprTo h i t k).s.po
 | 0 => sameBut.refl _
 | k + 1 => by
  refine (sprTo_same h i t k).trans ?_
  show sameBut _ (sprStep h i (sprTo h i t k) k).s.po
  generalize sprTo h i t k = t2
  unfold sprStep
  cases c : t2.s.po[k]? with
  | none => exact sameBut.refl _
  | some x =>
   show sameBut t2.s.po (if k = i ∨ innerB x = false ∨ linkB x = false then t2 else (t2.setPo (t2.s.po.set k (chP x h))).flush ((k : Int) + 1)).s.po
   split
   ·
    exact sameBut.refl _
   ·
    exact sameBut.set c h
theorem spread_same (t : TS) (i : Nat) : sameBut t.s.po (spreadM t i).s.po := sprTo_same _ _ _ _
theorem spread_is (t : TS) (i : Nat) : (spreadM t i).s.po.length = t.s.po.length ∧ (spreadM t i).s.cf = t.s.cf ∧ (spreadM t i).fl.length ≤ t.fl.length + t.s.po.length ∧ (spreadM t i).told = t.told := sprTo_is _ _ _ _
theorem spread_at {t : TS} {i j : Nat} {x : Po} {u : Vc} (h : t.s.po[j]? = some (poU x u)) : ∃ y, (spreadM t i).s.po[j]? = some (poU y u) := by
 obtain ⟨y, hy, k, rfl⟩ := (spread_same t i).2 j _ h
 exact ⟨chP x k, hy⟩
theorem same_ok {l l' : List Po} (h : sameBut l l') (hok : ∀ (k : Nat) (y : Po), l[k]? = some y → okP y) (k : Nat) (y : Po) (hy : l'[k]? = some y) : okP y := by
 have hl : k < l.length := by rw [h.1]; exact (List.getElem?_eq_some_iff.1 hy).1
 obtain ⟨z, hz, j, e⟩ := h.2 k _ (List.getElem?_eq_getElem hl)
 rw [hy] at hz
 injection hz with hz
 rw [hz, e]
 exact okP_ch (hok k _ (List.getElem?_eq_getElem hl))
theorem spread_ok {t : TS} {i : Nat} (hok : ∀ (k : Nat) (y : Po), t.s.po[k]? = some y → okP y) (k : Nat) (y : Po) (hy : (spreadM t i).s.po[k]? = some y) : okP y := same_ok (spread_same t i) hok k y hy
theorem plain4 : plainT (Tryd.prog.underlying 4) = true := by kernel_rfl
theorem size4 : (Tryd.prog.info? 4).map (·.size) = some 1 := by kernel_rfl
def plT (t : TS) (i : Nat) (x : Po) (u : Vc) : TS := t.setPo (t.s.po.set i (poU (plainP x) u))
theorem hear_acts {t : TS} {i : Nat} {x : Po} {u : Vc} (q : Pd) (v : Vc) (hx : t.s.po[i]? = some (poU x u)) (hok : ∀ (k : Nat) (y : Po), t.s.po[k]? = some y → okP y) (hv : v.ok) (hid : 0 ≤ t.s.cf.p0) (hn : t.s.po.length ≤ 900) (hf : t.fl.length + t.s.po.length + (t.s.po.length + 1) * t.s.po.length ≤ 1900) (ht : t.told.length + t.s.po.length ≤ 1900) : Acts 112 43 [iv (i : Nat), pdV (pdU q v)] t (hearM t i q v) := by
  intro c y hl
  obtain ⟨a, n, m, v2, v3, v4⟩ := c
  have hl : t.s.po.length = n := hl
  subst hl
  have hk := (List.getElem?_eq_some_iff.1 hx).1
  refine Meth_own (k := i) 0 rfl hk fun ⟨g, hg⟩ => ?_
  subst hg
  rw [hearM_some q v hx]
  have e1 : (t.setPo (t.s.po.set i (poU (plainP x) u))).s.po.length = t.s.po.length := List.length_set
  have hx1 : (t.setPo (t.s.po.set i (poU (plainP x) u))).s.po[i]? = some (poU (plainP x) u) := List.getElem?_set_self hk
  have hok1 : ∀ (k : Nat) (z : Po), (t.setPo (t.s.po.set i (poU (plainP x) u))).s.po[k]? = some z → okP z := fun k z hz => by
    rcases set_cases hz with ⟨-, e⟩ | e
    · rw [e]
      exact okP_plain (hok i _ hx)
    · exact hok k z e
  have f1 : (t.setPo (t.s.po.set i (poU (plainP x) u))).fl = t.fl := rfl
  have f2 : (t.setPo (t.s.po.set i (poU (plainP x) u))).told = t.told := rfl
  have f3 : (t.setPo (t.s.po.set i (poU (plainP x) u))).s.cf = t.s.cf := rfl
  have e5 : t.s.po.length ≤ (t.s.po.length + 1) * t.s.po.length := Nat.le_mul_of_pos_left _ (by omega)
  have ht1 : t.setPo (t.s.po.set i (poU (plainP x) u)) = plT t i x u := rfl
  have sp := spread_acts (i := i) (t := (plT t i x u)) (by rw [← ht1, e1]; omega) (by rw [← ht1, e1, f1]; omega) ⟨some ⟨g, 0, none⟩, t.s.po.length, m, v2, v3, v4⟩ y e1
  have s1 := spread_is (plT t i x u) i
  have s2 := spread_ok (t := (plT t i x u)) (i := i) hok1
  obtain ⟨xs, s3⟩ := spread_at (t := (plT t i x u)) (i := i) (j := i) (x := plainP x) (u := u) hx1
  obtain ⟨t2, ht2⟩ : ∃ t2, t2 = spreadM (plT t i x u) i := ⟨_, rfl⟩
  rw [ht1] at e1 hx1 hok1 f1 f2 f3 ⊢
  rw [← ht2] at sp s1 s2 s3 ⊢
  have w1 := agree_acts q v hx1 (by omega) (by rw [f1]; omega) ⟨some ⟨g, 0, none⟩, t.s.po.length, m, v2, v3, v4⟩ y e1
  have w2 := take_acts q v hx1 (fun k z hz => by
    rcases set_cases hz with ⟨-, e⟩ | e
    · rw [e]
      exact okP_hear (hok1 i _ hx1) hv
    · exact hok1 k z e) (by rw [f3]; exact hid) (by omega) (by rw [e1, f1]; omega) (by rw [e1, f2]; omega) ⟨some ⟨g, 0, none⟩, t.s.po.length, m, v2, v3, v4⟩ y e1
  have g1 : t2.s.po.length = t.s.po.length := s1.1.trans e1
  have g2 : t2.fl.length ≤ t.fl.length + t.s.po.length := by have q1 := s1.2.2.1; rw [f1, e1] at q1; exact q1
  have w3 := fun z : H2 => agree_acts q v s3 (by omega) (by omega) ⟨some ⟨g, 0, none⟩, t.s.po.length, m, v2, v3, v4⟩ z g1
  have w4 := fun z : H2 => take_acts q v s3 (fun k z hz => by
    rcases set_cases hz with ⟨-, e⟩ | e
    · rw [e]
      exact okP_hear (s2 i _ s3) hv
    · exact s2 k z e) (by rw [s1.2.1, f3]; exact hid) (by omega) (by rw [g1]; omega) (by rw [g1, s1.2.2.2, f2]; omega) ⟨some ⟨g, 0, none⟩, t.s.po.length, m, v2, v3, v4⟩ z g1
  by_cases h128 : q.p0 = 128
  · rw [if_pos h128, if_pos (.inl h128)]
    exact ev_meth (fun R fin => [oIx poE g t.s.po.length m hk, oSf poE 0 g t.s.po.length m 4 8 (.bool false) (l2 := (plT t i x u).s.po) (poU (plainP x) u) hx rfl (by decide) rfl size4 rfl rfl rfl, .b _ _ (decide_eq_true h128), Yes, oM sp 0 0 fun z => [.b _ _ (decide_eq_true h128), fin z]]) (fun R β w => by kernel_rfl)
  rw [if_neg h128]
  have d128 := decide_eq_false h128
  cases h1 : q.p1
  · rw [if_neg (fun z => z.elim h128 (by decide))]
    by_cases h2 : q.p0 = 2
    · by_cases h72 : q.p7 = 2
      · rw [if_pos ⟨h2, .inl h72⟩]
        exact ev_meth (fun R fin => [oIx poE g t.s.po.length m hk, oSf poE 0 g t.s.po.length m 4 8 (.bool false) (l2 := (plT t i x u).s.po) (poU (plainP x) u) hx rfl (by decide) rfl size4 rfl rfl rfl, .b _ _ d128, .b _ _ h1, .b _ _ d128, .b _ _ (decide_eq_true h2), .b _ _ (decide_eq_true h72), Yes, oM w1 0 0 fun z2 => [fin z2]]) (fun R β w => by kernel_rfl)
      · by_cases h71 : q.p7 = 1
        · rw [if_pos ⟨h2, .inr h71⟩]
          exact ev_meth (fun R fin => [oIx poE g t.s.po.length m hk, oSf poE 0 g t.s.po.length m 4 8 (.bool false) (l2 := (plT t i x u).s.po) (poU (plainP x) u) hx rfl (by decide) rfl size4 rfl rfl rfl, .b _ _ d128, .b _ _ h1, .b _ _ d128, .b _ _ (decide_eq_true h2), .b _ _ (decide_eq_false h72), .b _ _ (decide_eq_true h71), oM w1 0 0 fun z2 => [fin z2]]) (fun R β w => by kernel_rfl)
        · rw [if_neg (fun z => z.2.elim h72 h71)]
          exact ev_meth (fun R fin => [oIx poE g t.s.po.length m hk, oSf poE 0 g t.s.po.length m 4 8 (.bool false) (l2 := (plT t i x u).s.po) (poU (plainP x) u) hx rfl (by decide) rfl size4 rfl rfl rfl, .b _ _ d128, .b _ _ h1, .b _ _ d128, .b _ _ (decide_eq_true h2), .b _ _ (decide_eq_false h72), .b _ _ (decide_eq_false h71), oM w2 0 0 fun z2 => [fin z2]]) (fun R β w => by kernel_rfl)
    · rw [if_neg (fun z => h2 z.1)]
      exact ev_meth (fun R fin => [oIx poE g t.s.po.length m hk, oSf poE 0 g t.s.po.length m 4 8 (.bool false) (l2 := (plT t i x u).s.po) (poU (plainP x) u) hx rfl (by decide) rfl size4 rfl rfl rfl, .b _ _ d128, .b _ _ h1, .b _ _ d128, .b _ _ (decide_eq_false h2), No, oM w2 0 0 fun z2 => [fin z2]]) (fun R β w => by kernel_rfl)
  · rw [if_pos (.inr rfl)]
    by_cases h2 : q.p0 = 2
    · by_cases h72 : q.p7 = 2
      · rw [if_pos ⟨h2, .inl h72⟩]
        exact ev_meth (fun R fin => [oIx poE g t.s.po.length m hk, oSf poE 0 g t.s.po.length m 4 8 (.bool false) (l2 := (plT t i x u).s.po) (poU (plainP x) u) hx rfl (by decide) rfl size4 rfl rfl rfl, .b _ _ d128, .b _ _ h1, oM sp 0 0 fun z => [.b _ _ d128, .b _ _ (decide_eq_true h2), .b _ _ (decide_eq_true h72), Yes, oM (w3 z) 0 0 fun z2 => [fin z2]]]) (fun R β w => by kernel_rfl)
      · by_cases h71 : q.p7 = 1
        · rw [if_pos ⟨h2, .inr h71⟩]
          exact ev_meth (fun R fin => [oIx poE g t.s.po.length m hk, oSf poE 0 g t.s.po.length m 4 8 (.bool false) (l2 := (plT t i x u).s.po) (poU (plainP x) u) hx rfl (by decide) rfl size4 rfl rfl rfl, .b _ _ d128, .b _ _ h1, oM sp 0 0 fun z => [.b _ _ d128, .b _ _ (decide_eq_true h2), .b _ _ (decide_eq_false h72), .b _ _ (decide_eq_true h71), oM (w3 z) 0 0 fun z2 => [fin z2]]]) (fun R β w => by kernel_rfl)
        · rw [if_neg (fun z => z.2.elim h72 h71)]
          exact ev_meth (fun R fin => [oIx poE g t.s.po.length m hk, oSf poE 0 g t.s.po.length m 4 8 (.bool false) (l2 := (plT t i x u).s.po) (poU (plainP x) u) hx rfl (by decide) rfl size4 rfl rfl rfl, .b _ _ d128, .b _ _ h1, oM sp 0 0 fun z => [.b _ _ d128, .b _ _ (decide_eq_true h2), .b _ _ (decide_eq_false h72), .b _ _ (decide_eq_false h71), oM (w4 z) 0 0 fun z2 => [fin z2]]]) (fun R β w => by kernel_rfl)
    · rw [if_neg (fun z => h2 z.1)]
      exact ev_meth (fun R fin => [oIx poE g t.s.po.length m hk, oSf poE 0 g t.s.po.length m 4 8 (.bool false) (l2 := (plT t i x u).s.po) (poU (plainP x) u) hx rfl (by decide) rfl size4 rfl rfl rfl, .b _ _ d128, .b _ _ h1, oM sp 0 0 fun z => [.b _ _ d128, .b _ _ (decide_eq_false h2), No, oM (w4 z) 0 0 fun z2 => [fin z2]]]) (fun R β w => by kernel_rfl)
end
section
/- Layer 18, by the evaluator: copies of lists, of states. -/
open Go.RowKit
open Ev
set_option maxRecDepth 100000
/-- Something new is owned. -/
theorem Ev.Kf.fresh {w0 w w' : World} {F : Fm} {A X : Bd} (K : Kf w0 F A w) (hb : Below w.heap.size w w') (hX : X.p w') (hf : ∀ k, X.f k → w.heap.size ≤ k) (hlo : X.lo = 0) : Kf w0 F (X.sep A) w' := by
  have K2 := K.next hb
  have hs := K.below.size
  refine ⟨K2.all, K2.below, K2.new, K2.inj, ⟨hX, K2.a, fun k hk ha => ?_⟩, fun l x h q => ?_, fun k hk => ?_, ?_⟩
  · have := hf k hk
    have := A.lt K.a ha
    omega
  · rcases q with q | q
    · have := hf _ q
      have := (K.all l x h).lt
      omega
    · exact K2.ap l x h q
  · rcases hk with hk | hk
    · have := hf k hk
      omega
    · exact K2.nw k hk
  · show max X.lo A.lo ≤ _
    have := K2.lo
    omega
theorem fun_clone {α : Type} {P : Program} {f : FuncId} {e : TypeId} {size : Nat} {enc : α → List Value} {l : List α} {v : Value} (A : Bds) (hA : bdO e size enc v l ∈ A)
    (h : ∀ w, Own w 0 e size enc v l → Calls P f #[v] w fun r w' => ∃ v', r = .returned v' ∧ Own w' w.heap.size e size enc v' l ∧ Below w.heap.size w w') :
    Fun P f [v] A Hd (fun y => .slice y.1 l.length y.2) (fun y => bdO e size enc (.slice y.1 l.length y.2) l :: A) := by
  intro w0 F R w K
  refine (h w ((sepL_p.1 K.a.1).1 _ hA)).mono fun r w' ⟨v', e1, e2, e3⟩ => ?_
  obtain ⟨a, c, rfl⟩ := own_shape (e2.mono (Nat.zero_le _))
  exact ⟨(a, c), e1, sep_out (Kf.fresh K e3 (X := bdO e size enc (.slice a l.length c) l) (e2.mono (Nat.zero_le _)) (fun k hk => (e2.lt k hk).1) rfl)⟩
/-- A state's lists. -/
abbrev H4 := Hd × Hd × Hd × Hd
def stO (s : Go.Proofs.YtebnpblincgjlaaDoor.St) (v1 v2 v3 v4 : Value) : Bds := [bdO 73 21 poC v1 s.po, bdO 98 3 vrC v2 s.vl, bdO 105 8 srC v3 s.st, bdO 108 9 frC v4 s.fd]
def stH (s : Go.Proofs.YtebnpblincgjlaaDoor.St) (y : H4) : Value := stV s (.slice y.1.1 s.po.length y.1.2) (.slice y.2.1.1 s.vl.length y.2.1.2) (.slice y.2.2.1.1 s.st.length y.2.2.1.2) (.slice y.2.2.2.1 s.fd.length y.2.2.2.2)
def stN (s : Go.Proofs.YtebnpblincgjlaaDoor.St) (y : H4) : Bds := stO s (.slice y.1.1 s.po.length y.1.2) (.slice y.2.1.1 s.vl.length y.2.1.2) (.slice y.2.2.1.1 s.st.length y.2.2.1.2) (.slice y.2.2.2.1 s.fd.length y.2.2.2.2)
structure Few (s : Go.Proofs.YtebnpblincgjlaaDoor.St) : Prop where
  a : s.po.length ≤ 1000
  b : s.vl.length ≤ 1000
  c : s.st.length ≤ 1000
  d : s.fd.length ≤ 1000
theorem clone_fun (s : Go.Proofs.YtebnpblincgjlaaDoor.St) (x : H4) (h : Few s) : Fun Tryd.prog 8 [stH s x] (stN s x) H4 (stH s) (fun y => stN s y ++ stN s x) := by
  obtain ⟨x1, x2, x3, x4⟩ := x
  have c1 := fun_clone (P := Tryd.prog) (f := 25) (v := .slice x1.1 s.po.length x1.2) [bdO 73 21 poC (.slice x1.1 s.po.length x1.2) s.po] (List.mem_singleton.2 rfl) (fun w hw => clone_po hw h.a)
  have c2 := fun_clone (P := Tryd.prog) (f := 26) (v := .slice x2.1 s.vl.length x2.2) [bdO 73 21 poC (.slice x1.1 s.po.length x1.2) s.po, bdO 98 3 vrC (.slice x2.1 s.vl.length x2.2) s.vl] (by simp) (fun w hw => clone_vr hw h.b)
  have c3 := fun_clone (P := Tryd.prog) (f := 27) (v := .slice x3.1 s.st.length x3.2) [bdO 73 21 poC (.slice x1.1 s.po.length x1.2) s.po, bdO 98 3 vrC (.slice x2.1 s.vl.length x2.2) s.vl, bdO 105 8 srC (.slice x3.1 s.st.length x3.2) s.st] (by simp) (fun w hw => clone_sr hw h.c)
  have c4 := fun_clone (P := Tryd.prog) (f := 28) (v := .slice x4.1 s.fd.length x4.2) [bdO 73 21 poC (.slice x1.1 s.po.length x1.2) s.po, bdO 98 3 vrC (.slice x2.1 s.vl.length x2.2) s.vl, bdO 105 8 srC (.slice x3.1 s.st.length x3.2) s.st, bdO 108 9 frC (.slice x4.1 s.fd.length x4.2) s.fd] (by simp) (fun w hw => clone_fr hw h.d)
  exact ev_fun (fun R fin => [oF c1 (none, 0) 0 fun y1 => [oF c2 (none, 0) 1 fun y2 => [oF c3 (none, 0) 2 fun y3 => [oF c4 (none, 0) 3 fun y4 => [fin (y1, y2, y3, y4)]]]]]) (fun R β w => by kernel_rfl)
end
end Go.Proofs.YtebnpblincgjlaaDoor
