import Derived.Test.YtebnpblincgjlaaDoorG22
import Derived.Test.YtebnpblincgjlaaDoorG17
import Derived.Test.YtebnpblincgjlaaDoorG21
set_option linter.unusedSimpArgs false
set_option linter.unusedVariables false
namespace Go.Proofs.YtebnpblincgjlaaDoor
section
open Go.RowKit
structure Iv (s : Go.Proofs.YtebnpblincgjlaaDoor.St) : Prop where
 ro : RoI ⟨s, [], []⟩
 few : s.po.length ≤ 6
 id : 0 ≤ s.cf.p0 ∧ s.cf.p0 < 18446744073709551616
theorem Iv.ok {s : Go.Proofs.YtebnpblincgjlaaDoor.St} (h : Iv s) (k : Nat) (x : Po) (hx : s.po[k]? = some x) : okP x := (h.ro.pre k x hx).ok
theorem RoI.same {t t' : TS} (h : RoI t) (hs : t'.s = t.s) : RoI t' := h.sim (by rw [hs]) (by rw [hs]; exact simL.refl _)
theorem PreL.map {f : Nat → Po → Po} {t : TS} (h : PreL t.s.po) (hf : ∀ k x, PreP x → PreP (f k x)) : PreL (mapTo f t t.s.po.length).s.po := fun k y hy => by
 have hk : k < t.s.po.length := by rw [← (mapTo_is f t t.s.po.length).1]; exact (List.getElem?_eq_some_iff.1 hy).1
 have q := mapTo_get f t k t.s.po.length
 rw [if_pos hk, hy, List.getElem?_eq_getElem hk] at q
 have q : some y = some (f k t.s.po[k]) := q
 injection q with q
 rw [q]
 exact hf k _ (h k _ (List.getElem?_eq_getElem hk))
theorem PreL.set {l : List Po} {i : Nat} {z : Po} (h : PreL l) (hz : PreP z) : PreL (l.set i z) := fun k y hy => by
 rcases set_cases hy with ⟨-, e⟩ | e
 ·
  rw [e]; exact hz
 ·
  exact h k y e
theorem pre_switch {x : Po} {up ad : Bool} {d : Int} (h : PreP x) : PreP (switchP x up ad d) := by
 refine ⟨okP_switch h.ok, fun ho => ?_, fun hr => ?_, fun hr => ?_⟩
 ·
  unfold switchP at ho ⊢
  split
  ·
   rename_i c
   rw [if_pos c] at ho
   split
   ·
    rename_i c2
    rw [if_pos c2] at ho
    have ho : (up && ad) = false := ho
    rw [c] at ho
    cases ho
   ·
    rfl
  ·
   rfl
 ·
  unfold switchP at hr ⊢
  split
  ·
   rename_i c
   rw [if_pos c] at hr
   split
   ·
    rename_i c2
    rw [if_pos c2] at hr
    exact h.root hr
   ·
    rename_i c2
    rw [if_neg c2] at hr
    exact absurd (show (0 : Int) = 3 from hr) (by decide)
  ·
   rename_i c
   rw [if_neg c] at hr
   exact absurd (show (0 : Int) = 3 from hr) (by decide)
 ·
  unfold switchP at hr ⊢
  split
  ·
   rename_i c
   rw [if_pos c] at hr
   split
   ·
    exact c
   ·
    rename_i c2
    rw [if_neg c2] at hr
    exact absurd (show (0 : Int) = 4 from hr) (by decide)
  ·
   rename_i c
   rw [if_neg c] at hr
   exact absurd (show (0 : Int) = 4 from hr) (by decide)
theorem pre_fade {x : Po} (h : PreP x) : PreP (tick1 (fadeP x)) := by
 have a : PreP (fadeP x) := by
  unfold fadeP
  split
  ·
   split
   ·
    exact ⟨⟨h.ok.r, h.ok.c, h.ok.b, h.ok.p, h.ok.k⟩, h.off, h.root, h.des⟩
   ·
    exact ⟨okP_zero h.ok _ rfl rfl rfl rfl rfl, h.off, h.root, h.des⟩
  ·
   exact h
 unfold tick1
 split
 ·
  exact ⟨⟨a.ok.r, a.ok.c, a.ok.b, a.ok.p, a.ok.k⟩, a.off, a.root, a.des⟩
 ·
  exact a
theorem sim_step (d : Int) (x : Po) : simP x (stepP x d) := by
 unfold stepP
 split
 ·
  rename_i c
  split
  ·
   exact simP.refl x
  ·
   split
   ·
    exact ⟨rfl, rfl, rfl, rfl, rfl, rfl, .inl rfl, fun h => ⟨h.r, h.c, h.b, h.p, h.k⟩⟩
   ·
    split
    ·
     exact ⟨rfl, rfl, rfl, rfl, rfl, rfl, .inr c, fun h => ⟨h.r, h.c, h.b, h.p, h.k⟩⟩
    ·
     split
     ·
      exact ⟨rfl, rfl, rfl, rfl, rfl, rfl, .inr c, fun h => ⟨h.r, h.c, h.b, h.p, h.k⟩⟩
     ·
      exact ⟨rfl, rfl, rfl, rfl, rfl, rfl, .inr c, fun h => ⟨h.r, h.c, h.b, h.p, h.k⟩⟩
 ·
  exact simP.refl x
theorem sim_block (d : Int) (x : Po) : simP x (blockP x d) := by
 unfold blockP
 split
 ·
  rename_i c
  exact ⟨rfl, rfl, rfl, rfl, rfl, rfl, .inr c.1, fun h => ⟨h.r, h.c, h.b, h.p, h.k⟩⟩
 ·
  exact simP.refl x
theorem sim_agree (x : Po) : simP x (agreeP x) := by
 unfold agreeP
 split
 ·
  rename_i c
  exact ⟨rfl, rfl, rfl, rfl, rfl, rfl, .inr c, fun h => ⟨h.r, h.c, h.b, h.p, h.k⟩⟩
 ·
  exact simP.refl x
theorem pre_hear {x : Po} {u v : Vc} {a : Int} {c : Cf} (h : PreP (poU x u)) (hv : v.ok) : PreP (hearP x u v a c) := by
 refine ⟨okP_hear h.ok hv, fun ho => ?_, fun hr => ?_, fun hr => ?_⟩
 ·
  unfold hearP at ho ⊢
  split
  ·
   rename_i c1
   rw [if_pos c1] at ho
   exact h.off ho
  ·
   split
   ·
    rename_i c1 c2
    rw [if_neg c1, if_pos c2] at ho
    exact h.off ho
   ·
    rename_i c1 c2
    rw [if_neg c1, if_neg c2] at ho
    exact h.off ho
 ·
  unfold hearP at hr ⊢
  split
  ·
   rename_i c1
   rw [if_pos c1] at hr
   exact h.root hr
  ·
   split
   ·
    rename_i c1 c2
    rw [if_neg c1, if_pos c2] at hr
    exact h.root hr
   ·
    rename_i c1 c2
    rw [if_neg c1, if_neg c2] at hr
    exact h.root hr
 ·
  unfold hearP at hr ⊢
  split
  ·
   rename_i c1
   rw [if_pos c1] at hr
   exact h.des hr
  ·
   split
   ·
    rename_i c1 c2
    rw [if_neg c1, if_pos c2] at hr
    exact h.des hr
   ·
    rename_i c1 c2
    rw [if_neg c1, if_neg c2] at hr
    exact h.des hr
theorem answer_sim (t : TS) (i : Nat) : simL t.s.po (answerM t i).s.po ∧ (answerM t i).s.cf = t.s.cf := by
 unfold answerM
 split
 ·
  rename_i x _
  split
  ·
   have e : ∀ (t : TS) (q : Pd), (sendM t i q).s = t.s := fun t q => by
    unfold sendM
    split <;> rfl
   refine ⟨?_, ?_⟩
   ·
    rw [e]
    exact simL.of_map (fun k x => by
     unfold blkF
     split
     ·
      exact simP.refl x
     ·
      exact sim_block _ x)
   ·
    rw [e]; exact (mapTo_is _ _ _).2.1
  ·
   exact ⟨simL.refl _, rfl⟩
 ·
  exact ⟨simL.refl _, rfl⟩
theorem tick_s (s : Go.Proofs.YtebnpblincgjlaaDoor.St) : (tickM s).s.po = (stepMM (chooseM (fadeM ⟨s, [], []⟩))).s.po ∧ (tickM s).s.cf = (stepMM (chooseM (fadeM ⟨s, [], []⟩))).s.cf := by
 have key : ∀ t3 : TS, (let t4 := t3.setBeat (IntKind.i64.wrap (t3.s.beat - 1)); if t4.s.beat ≤ 0 then beatM (t4.setBeat t4.s.cf.p2) else t4).s.po = t3.s.po ∧ (let t4 := t3.setBeat (IntKind.i64.wrap (t3.s.beat - 1)); if t4.s.beat ≤ 0 then beatM (t4.setBeat t4.s.cf.p2) else t4).s.cf = t3.s.cf := fun t3 => by
  dsimp only
  split
  ·
   rw [(beatM_is _).1]; exact ⟨rfl, rfl⟩
  ·
   exact ⟨rfl, rfl⟩
 exact key _
theorem tick_iv {s : Go.Proofs.YtebnpblincgjlaaDoor.St} (h : Iv s) : Iv (tickM s).s := by
 have hf := fadeM_is ⟨s, [], []⟩
 have p1 : PreL (fadeM ⟨s, [], []⟩).s.po := PreL.map (t := ⟨s, [], []⟩) h.ro.pre (fun k x hx => pre_fade hx)
 have r2 := choose_roles p1 (by rw [hf.2.1]; exact h.id)
 have c2 := chooseM_io (fadeM ⟨s, [], []⟩)
 have c3 := stepMM_is (chooseM (fadeM ⟨s, [], []⟩))
 have s3 : simL (chooseM (fadeM ⟨s, [], []⟩)).s.po (stepMM (chooseM (fadeM ⟨s, [], []⟩))).s.po := by
  generalize chooseM (fadeM ⟨s, [], []⟩) = t
  refine (simL.of_map (f := stF t.s.cf.p3) (fun k x => sim_step _ x)).trans ?_
  exact simL.of_same (foldChanged_same _ _ _)
 have r3 := r2.sim (by rw [c3.2.1]) s3
 have e := tick_s s
 refine ⟨r3.sim (by rw [e.2]) (by rw [e.1]; exact simL.refl _), ?_, ?_⟩
 ·
  rw [e.1, c3.1, c2.1, hf.1]; exact h.few
 ·
  rw [e.2, c3.2.1, c2.2.1, hf.2.1]; exact h.id
theorem start_iv {s : Go.Proofs.YtebnpblincgjlaaDoor.St} (hp : PreL s.po) (hf : s.po.length ≤ 6) (hid : 0 ≤ s.cf.p0 ∧ s.cf.p0 < 18446744073709551616) : Iv (startM s).s := by
 have q := mapTo_is (begF s.cf.p3) ((⟨s, [], []⟩ : TS).setBeat 0) s.po.length
 have p1 : PreL (mapTo (begF s.cf.p3) ((⟨s, [], []⟩ : TS).setBeat 0) s.po.length).s.po := PreL.map (t := (⟨s, [], []⟩ : TS).setBeat 0) hp (fun k x hx => pre_switch (pre_switch hx))
 have r := choose_roles p1 (by rw [q.2.1]; exact hid)
 have c := chooseM_io (mapTo (begF s.cf.p3) ((⟨s, [], []⟩ : TS).setBeat 0) s.po.length)
 unfold startM startT
 generalize hz : mapTo (begF s.cf.p3) ((⟨s, [], []⟩ : TS).setBeat 0) s.po.length = t at q p1 r c
 exact ⟨r.same rfl, by rw [c.1, q.1]; exact hf, by rw [c.2.1, q.2.1]; exact hid⟩
theorem switch_iv {s : Go.Proofs.YtebnpblincgjlaaDoor.St} (h : Iv s) (p : Int) (up ad : Bool) : Iv (switchC s p up ad).s := by
 unfold switchC
 split
 ·
  split
  ·
   rename_i x hx
   have hz : PreL (s.po.set (p - 1).toNat (switchP x up ad s.cf.p3)) := h.ro.pre.set (pre_switch (h.ro.pre _ x hx))
   have key : ∀ t : TS, t.s.po = s.po.set (p - 1).toNat (switchP x up ad s.cf.p3) → t.s.cf = s.cf → Iv (chooseM t).s := fun t h1 h2 => by
    have c := chooseM_io t
    exact ⟨(choose_roles (by rw [h1]; exact hz) (by rw [h2]; exact h.id)).same rfl, by rw [c.1, h1, List.length_set]; exact h.few, by rw [c.2.1, h2]; exact h.id⟩
   split
   ·
    exact key _ rfl rfl
   ·
    exact key _ rfl rfl
  ·
   exact h
 ·
  exact h
theorem hear_iv {s : Go.Proofs.YtebnpblincgjlaaDoor.St} (h : Iv s) (p : Int) (q : Pd) {v : Vc} (hv : v.ok) : Iv (hearC s p q v).s := by
 unfold hearC
 split
 ·
  split
  ·
   rename_i x hx
   split
   ·
    obtain ⟨i, hi⟩ : ∃ i, i = (p - 1).toNat := ⟨_, rfl⟩
    rw [← hi] at hx ⊢
    have hxu : s.po[i]? = some (poU x (vecN x)) := by rw [← okP_poU (h.ok i x hx)]; exact hx
    rw [hearM_some (t := ⟨s, [], []⟩) q v hxu]
    -- what a PDU says, at a port that is like it
    obtain ⟨t1, ht1⟩ : ∃ z : TS, z = (⟨s, [], []⟩ : TS).setPo (s.po.set i (poU (plainP x) (vecN x))) := ⟨_, rfl⟩
    have g1 : RoI t1 ∧ t1.s.po.length = s.po.length ∧ t1.s.cf = s.cf ∧ ∃ y, t1.s.po[i]? = some (poU y (vecN x)) := by
     rw [ht1]
     refine ⟨h.ro.sim rfl (simL.of_set hxu ⟨rfl, rfl, rfl, rfl, rfl, rfl, .inl rfl, okP_plain⟩), List.length_set, rfl, _, List.getElem?_set_self (List.getElem?_eq_some_iff.1 hx).1⟩
    have g2 : RoI (spreadM t1 i) ∧ (spreadM t1 i).s.po.length = s.po.length ∧ (spreadM t1 i).s.cf = s.cf ∧ ∃ y, (spreadM t1 i).s.po[i]? = some (poU y (vecN x)) := by
     obtain ⟨a, b, c, y, d⟩ := g1
     have e := spread_is t1 i
     exact ⟨a.sim (by rw [e.2.1]) (simL.of_same (spread_same t1 i)), e.1.trans b, e.2.1.trans c, spread_at d⟩
    have agr : ∀ t : TS, RoI t ∧ t.s.po.length = s.po.length ∧ t.s.cf = s.cf ∧ (∃ y, t.s.po[i]? = some (poU y (vecN x))) → Iv (agreeM t i q v).s := fun t ⟨a, b, c, y, d⟩ => by
     have hb : Iv t.s := ⟨a.same rfl, by rw [b]; exact h.few, by rw [c]; exact h.id⟩
     unfold agreeM
     rw [d]
     show Iv ((if _ then (if _ then _ else _) else _ : TS)).s
     split
     ·
      have r2 : RoI (t.setPo (t.s.po.set i (agreeP (poU y (vecN x))))) := a.sim rfl (simL.of_set d (sim_agree _))
      split
      ·
       have e := changedM_is (t.setPo (t.s.po.set i (agreeP (poU y (vecN x))))) i
       refine ⟨(r2.sim (by rw [e.2.1]) (simL.of_same (changedM_same _ i))).same rfl, ?_, ?_⟩
       ·
        rw [e.1]; show (t.s.po.set i _).length ≤ 6; rw [List.length_set, b]; exact h.few
       ·
        rw [e.2.1]; show 0 ≤ t.s.cf.p0 ∧ t.s.cf.p0 < _; rw [c]; exact h.id
      ·
       exact ⟨r2.same rfl, by show (t.s.po.set i _).length ≤ 6; rw [List.length_set, b]; exact h.few, by show 0 ≤ t.s.cf.p0 ∧ t.s.cf.p0 < _; rw [c]; exact h.id⟩
     ·
      exact hb
    have tak : ∀ t : TS, RoI t ∧ t.s.po.length = s.po.length ∧ t.s.cf = s.cf ∧ (∃ y, t.s.po[i]? = some (poU y (vecN x))) → Iv (takeM t i q v).s := fun t ⟨a, b, c, y, d⟩ => by
     rw [takeM_some q v d]
     obtain ⟨z, hz⟩ : ∃ z, z = hearP y (vecN x) v (IntKind.i64.wrap q.p12) t.s.cf := ⟨_, rfl⟩
     rw [← hz]
     have pz : PreP z := by rw [hz]; exact pre_hear (a.pre i _ d) hv
     have hl : (t.s.po.set i z).length ≤ 6 := by rw [List.length_set, b]; exact h.few
     have base : hearN y (vecN x) v (IntKind.i64.wrap q.p12) t.s.cf = 0 ∨ hearN y (vecN x) v (IntKind.i64.wrap q.p12) t.s.cf = 1 → Iv (t.setPo (t.s.po.set i z)).s := fun hh => by
      have ez : z = poU y (vecN x) := by
       rw [hz]
       unfold hearN at hh
       unfold hearP
       split
       ·
        rfl
       ·
        rename_i c1
        rw [if_neg c1] at hh
        split
        ·
         rename_i c2
         rw [if_pos c2] at hh
         split at hh <;> omega
        ·
         rfl
      rw [ez, set_same d]
      exact ⟨a.same rfl, by show t.s.po.length ≤ 6; rw [b]; exact h.few, by show 0 ≤ t.s.cf.p0 ∧ t.s.cf.p0 < _; rw [c]; exact h.id⟩
     have cho : Iv (chooseM (t.setPo (t.s.po.set i z))).s := by
      have e := chooseM_io (t.setPo (t.s.po.set i z))
      exact ⟨(choose_roles (a.pre.set pz) (by show 0 ≤ t.s.cf.p0 ∧ t.s.cf.p0 < _; rw [c]; exact h.id)).same rfl, by rw [e.1]; exact hl, by rw [e.2.1]; show 0 ≤ t.s.cf.p0 ∧ t.s.cf.p0 < _; rw [c]; exact h.id⟩
     split
     ·
      rename_i k1
      split
      ·
       rw [(tellM_is _ _).1]; exact base (.inr k1)
      ·
       exact base (.inr k1)
     ·
      rename_i k1
      split
      ·
       split
       ·
        obtain ⟨e1, e2⟩ := answer_sim (chooseM (t.setPo (t.s.po.set i z))) i
        have r := cho.ro.sim (t' := answerM (chooseM (t.setPo (t.s.po.set i z))) i) (by rw [e2]) e1
        exact ⟨r.same rfl, by rw [e1.1]; exact cho.few, by rw [e2]; exact cho.id⟩
       ·
        exact cho
      ·
       rename_i k2
       refine base (.inl ?_)
       rcases hearN_is y (vecN x) v (IntKind.i64.wrap q.p12) t.s.cf with k | k | k | k
       ·
        exact k
       ·
        exact absurd k k1
       ·
        exact absurd (.inl k) k2
       ·
        exact absurd (.inr k) k2
    have pln : ∀ t : TS, RoI t ∧ t.s.po.length = s.po.length ∧ t.s.cf = s.cf ∧ (∃ y, t.s.po[i]? = some (poU y (vecN x))) → Iv t.s := fun t ⟨a, b, c, _⟩ => ⟨a.same rfl, by rw [b]; exact h.few, by rw [c]; exact h.id⟩
    rw [← ht1]
    split
    ·
     split
     ·
      exact pln _ g2
     ·
      exact pln _ g1
    ·
     split
     ·
      split
      ·
       exact agr _ g2
      ·
       exact tak _ g2
     ·
      split
      ·
       exact agr _ g1
      ·
       exact tak _ g1
   ·
    exact h
  ·
   exact h
 ·
  exact h
theorem made_iv (x : Sg) (l : List Pg) : Iv (startM (madeS x l)).s := by
 refine start_iv (fun k y hy => ⟨made_ok x l k y hy, fun _ => ?_, fun h => ?_, fun h => ?_⟩) (made_few x l) (made_id x l)
 all_goals
  have hy : ((l.take 6).map madeP)[k]? = some y := hy
  rw [List.getElem?_map] at hy
  cases c : (l.take 6)[k]? with
  | none => rw [c] at hy; cases hy
  | some z =>
   rw [c] at hy
   have hy : some (madeP z) = some y := hy
   injection hy with hy
   subst hy
   first | rfl | exact absurd (show (0 : Int) = 3 from h) (by decide) | exact absurd (show (0 : Int) = 4 from h) (by decide)
end
section
/- Layer 18's law: what each act makes of a bare state. -/
open Go.RowKit
open Ev
set_option maxRecDepth 100000
/-- What an act came to: a bare state of as many ports, again as it should be. -/
structure Came (cf : Cf) (c : Nat → Int) (N : Nat) (T : TS) : Prop where
  cf : T.s.cf = cf
  rest : T.rest = ([], [], [], c)
  n : T.s.po.length = N
  iv : Iv T.s
  st : stB T.s.po
  told : T.told.length ≤ 1900
  fl : T.fl.length ≤ 1900
theorem Came.is {cf : Cf} {c : Nat → Int} {N : Nat} {T : TS} (h : Came cf c N T) : ∃ po beat told fl, T = ⟨bare cf po c beat, told, fl⟩ ∧ po.length = N ∧ Iv (bare cf po c beat) ∧ stB po ∧ told.length ≤ 1900 ∧ fl.length ≤ 1900 := by
  obtain ⟨h1, h2, h3, h4, h5, h6, h7⟩ := h
  obtain ⟨⟨cf', po, vl, st, fd, c', beat⟩, told, fl⟩ := T
  simp only [TS.rest, Prod.mk.injEq] at h2
  obtain ⟨rfl, rfl, rfl, rfl⟩ := h2
  have h1 : cf' = cf := h1
  subst h1
  exact ⟨po, beat, told, fl, rfl, h3, h4, h5, h6, h7⟩
section
variable {cf : Cf} {po : List Po} {c : Nat → Int} {beat : Int} {N : Nat}
theorem iv_few (h : Iv (bare cf po c beat)) : po.length ≤ 6 := h.few
theorem bare_gd (h : Iv (bare cf po c beat)) (hs : stB po) : Gd ⟨bare cf po c beat, [], []⟩ :=
  ⟨by have := iv_few h; show po.length ≤ 16; omega, Nat.zero_le _, Nat.zero_le _, h.id.1, h.ok, hs⟩
theorem tick_came (hN : po.length = N) (h : Iv (bare cf po c beat)) (hs : stB po) : Came cf c N (tickM (bare cf po c beat)) := by
  have hn := iv_few h
  have hnn : po.length * po.length ≤ 6 * 6 := Nat.mul_le_mul hn hn
  have f1 := fadeM_is ⟨bare cf po c beat, [], []⟩
  have c2 := chooseM_io (fadeM ⟨bare cf po c beat, [], []⟩)
  have c3 := stepMM_is (chooseM (fadeM ⟨bare cf po c beat, [], []⟩))
  have e := tick_s (bare cf po c beat)
  have s3 : stB (tickM (bare cf po c beat)).s.po := by
    rw [e.1]
    have q : stepMM (chooseM (fadeM ⟨bare cf po c beat, [], []⟩)) = forTo changedM (pAt (opF (chooseM (fadeM ⟨bare cf po c beat, [], []⟩)).s.cf.p3) (chooseM (fadeM ⟨bare cf po c beat, [], []⟩)).s.po) (mapTo (stF (chooseM (fadeM ⟨bare cf po c beat, [], []⟩)).s.cf.p3) (chooseM (fadeM ⟨bare cf po c beat, [], []⟩)) (chooseM (fadeM ⟨bare cf po c beat, [], []⟩)).s.po.length) (chooseM (fadeM ⟨bare cf po c beat, [], []⟩)).s.po.length := by unfold stepMM; rw [foldT_mark]
    rw [q]
    exact same_st (forChanged_same _ _ _) (map_st (choose_stB (fadeM_gd (bare_gd h hs)).1.st) (fun k x => step_st) _)
  have r : (tickM (bare cf po c beat)).rest = ([], [], [], c) ∧ (tickM (bare cf po c beat)).told.length ≤ (stepMM (chooseM (fadeM ⟨bare cf po c beat, [], []⟩))).told.length + (stepMM (chooseM (fadeM ⟨bare cf po c beat, [], []⟩))).s.po.length ∧ (tickM (bare cf po c beat)).fl = (stepMM (chooseM (fadeM ⟨bare cf po c beat, [], []⟩))).fl := by
    have r3 : (stepMM (chooseM (fadeM ⟨bare cf po c beat, [], []⟩))).rest = ([], [], [], c) := by rw [stepMM_rest, chooseM_rest, fadeM_rest]; rfl
    unfold tickM
    generalize stepMM (chooseM (fadeM ⟨bare cf po c beat, [], []⟩)) = t3 at r3
    dsimp only
    split
    · have b := beatM_is ((t3.setBeat (IntKind.i64.wrap (t3.s.beat - 1))).setBeat t3.s.cf.p2)
      exact ⟨by rw [beatM_rest]; exact r3, b.2.2, b.2.1⟩
    · exact ⟨r3, Nat.le_add_right _ _, rfl⟩
  have b1 : (fadeM ⟨bare cf po c beat, [], []⟩).s.po.length = po.length := f1.1
  have t1 : (fadeM ⟨bare cf po c beat, [], []⟩).told = [] := f1.2.2.2
  have fl1 : (fadeM ⟨bare cf po c beat, [], []⟩).fl = [] := f1.2.2.1
  rw [b1] at c2
  rw [c2.1] at c3
  rw [t1, fl1] at c2
  refine ⟨by rw [e.2, c3.2.1, c2.2.1, f1.2.1], r.1, by rw [e.1, c3.1]; exact hN, tick_iv h, s3, ?_, ?_⟩
  · have := r.2.1
    rw [c3.2.2.2, c3.1] at this
    have := c2.2.2.2
    simp only [List.length_nil] at this
    omega
  · rw [r.2.2]
    have := c3.2.2.1
    have := c2.2.2.1
    simp only [List.length_nil] at this
    omega
theorem choose_came {T : TS} (hcf : T.s.cf = cf) (hr : T.rest = ([], [], [], c)) (hN : T.s.po.length = N) (hn : N ≤ 6) (hi : Iv (chooseM T).s) (hs : stB T.s.po) (ht : T.told.length ≤ 100) (hf : T.fl.length ≤ 100) : Came cf c N (chooseM T) := by
  have e := chooseM_io T
  have hnn : N * N ≤ 6 * 6 := Nat.mul_le_mul hn hn
  rw [hN] at e
  exact ⟨by rw [e.2.1]; exact hcf, by rw [chooseM_rest]; exact hr, e.1, hi, choose_stB hs, by have := e.2.2.2; omega, by have := e.2.2.1; omega⟩
theorem start_came (hN : po.length = N) (hn : po.length ≤ 6) (hok : ∀ (k : Nat) (x : Po), po[k]? = some x → okP x) (hi : Iv (startM (bare cf po c beat)).s) (hs : stB po) : Came cf c N (startM (bare cf po c beat)) := by
  have f := mapTo_is (begF cf.p3) ((⟨bare cf po c beat, [], []⟩ : TS).setBeat 0) po.length
  refine choose_came (T := startT (bare cf po c beat) po.length) f.2.1 ?_ (f.1.trans hN) (by omega) hi ?_ ?_ ?_
  · unfold startT; rw [mapTo_rest]; rfl
  · exact map_st (t := (⟨bare cf po c beat, [], []⟩ : TS).setBeat 0) hs (fun k x hx => switch_st (switch_st hx)) _
  · rw [show (startT (bare cf po c beat) po.length).told = [] from f.2.2.2]; exact Nat.zero_le _
  · rw [show (startT (bare cf po c beat) po.length).fl = [] from f.2.2.1]; exact Nat.zero_le _
theorem none_came (hN : po.length = N) (h : Iv (bare cf po c beat)) (hs : stB po) : Came cf c N ⟨bare cf po c beat, [], []⟩ := ⟨rfl, rfl, hN, h, hs, Nat.zero_le _, Nat.zero_le _⟩
theorem on_switch (x : Po) (up ad : Bool) (d : Int) : onP (switchP x up ad d) = (up && ad) := by
  unfold switchP
  split
  · split <;> simp [onP]
  · simp [onP]
theorem switch_is {s : StT} {i : Nat} {x : Po} (hx : s.po[i]? = some x) (up ad : Bool) : switchC s ((i : Int) + 1) up ad = chooseM (swT ⟨s, [], []⟩ i x up ad) := by
  have hk := (List.getElem?_eq_some_iff.1 hx).1
  unfold switchC
  rw [if_pos ⟨by omega, by omega⟩, show ((i : Int) + 1 - 1).toNat = i by omega, hx]
  dsimp only
  congr 1
  unfold swT
  by_cases c : (onP x && !(up && ad)) = true
  · have c' := c
    rw [Bool.and_eq_true, Bool.not_eq_true'] at c'
    rw [if_pos c, if_pos ⟨c'.1, by rw [on_switch]; exact c'.2⟩]
    rfl
  · rw [if_neg c, if_neg (fun z => c (by rw [Bool.and_eq_true, Bool.not_eq_true']; exact ⟨z.1, by have := z.2; rw [on_switch] at this; exact this⟩))]
theorem switch_came (hN : po.length = N) (h : Iv (bare cf po c beat)) (hs : stB po) (p : Int) (up ad : Bool) : Came cf c N (switchC (bare cf po c beat) p up ad) := by
  have hi := switch_iv h p up ad
  have hn := iv_few h
  by_cases hp : 1 ≤ p ∧ p ≤ (po.length : Int)
  · obtain ⟨i, rfl⟩ : ∃ i : Nat, p = (i : Int) + 1 := ⟨(p - 1).toNat, by omega⟩
    obtain ⟨x, hx⟩ : ∃ x, po[i]? = some x := ⟨_, List.getElem?_eq_getElem (by omega)⟩
    have e := switch_is (s := bare cf po c beat) hx up ad
    rw [e] at hi ⊢
    have hl : (po.set i (switchP x up ad cf.p3)).length = N := by rw [List.length_set]; exact hN
    refine choose_came ?_ ?_ ?_ (by omega) hi ?_ ?_ ?_
    · unfold swT; split <;> rfl
    · unfold swT; split <;> rfl
    · unfold swT; split <;> exact hl
    · unfold swT; split <;> exact st_set hs (switch_st (hs i x hx))
    · unfold swT; split <;> exact Nat.zero_le _
    · unfold swT; split
      · show ([] ++ [_] : List Int).length ≤ _; simp
      · exact Nat.zero_le _
  · have e : switchC (bare cf po c beat) p up ad = ⟨bare cf po c beat, [], []⟩ := by unfold switchC; rw [if_neg hp]
    rw [e]
    exact none_came hN h hs
end
end
section
/- Layer 18's law: what Hear makes of a bare state. -/
open Go.RowKit
open Ev
set_option maxRecDepth 100000
/-- What is kept, and how much more is told and flushed. -/
structure Sz (t t' : TS) (a b : Nat) : Prop where
  n : t'.s.po.length = t.s.po.length
  cf : t'.s.cf = t.s.cf
  told : t'.told.length ≤ t.told.length + a
  fl : t'.fl.length ≤ t.fl.length + b
  st : stB t.s.po → stB t'.s.po
theorem Sz.refl (t : TS) (a b : Nat) : Sz t t a b := ⟨rfl, rfl, Nat.le_add_right _ _, Nat.le_add_right _ _, id⟩
theorem Sz.trans {t t' t2 : TS} {a b a' b' : Nat} (h : Sz t t' a b) (k : Sz t' t2 a' b') : Sz t t2 (a + a') (b + b') :=
  ⟨k.n.trans h.n, k.cf.trans h.cf, by have := h.told; have := k.told; omega, by have := h.fl; have := k.fl; omega, fun s => k.st (h.st s)⟩
theorem Sz.mono {t t' : TS} {a b a' b' : Nat} (h : Sz t t' a b) (ha : a ≤ a') (hb : b ≤ b') : Sz t t' a' b' := ⟨h.n, h.cf, by have := h.told; omega, by have := h.fl; omega, h.st⟩
theorem sz_set (t : TS) (i : Nat) (z : Po) (hz : stB t.s.po → 0 ≤ z.p11 ∧ z.p11 ≤ 2) : Sz t (t.setPo (t.s.po.set i z)) 0 0 := ⟨List.length_set, rfl, Nat.le_refl _, Nat.le_refl _, fun s => st_set s (hz s)⟩
theorem sz_changed (t : TS) (i : Nat) : Sz t (changedM t i) 0 t.s.po.length := by
  have h := changedM_is t i
  exact ⟨h.1, h.2.1, by rw [h.2.2.2]; exact Nat.le_refl _, h.2.2.1, same_st (changedM_same t i)⟩
theorem sz_spread (t : TS) (i : Nat) : Sz t (spreadM t i) 0 t.s.po.length := by
  have h := spread_is t i
  exact ⟨h.1, h.2.1, by rw [h.2.2.2]; exact Nat.le_refl _, h.2.2.1, same_st (spread_same t i)⟩
theorem sz_tell (t : TS) (i : Nat) : Sz t (tellM t i) 1 0 := by
  have h := tellM_is t i
  exact ⟨by rw [h.1], by rw [h.1], h.2.2, by rw [h.2.1]; exact Nat.le_refl _, fun s => by rw [h.1]; exact s⟩
theorem sz_send (t : TS) (i : Nat) (q : Pd) : Sz t (sendM t i q) 1 0 := by
  have h := sendM_is t i q
  exact ⟨by rw [h.1], by rw [h.1], h.2.2, by rw [h.2.1]; exact Nat.le_refl _, fun s => by rw [h.1]; exact s⟩
theorem sz_map (f : Nat → Po → Po) (t : TS) (n : Nat) (hf : ∀ k x, (0 ≤ x.p11 ∧ x.p11 ≤ 2) → 0 ≤ (f k x).p11 ∧ (f k x).p11 ≤ 2) : Sz t (mapTo f t n) 0 0 := by
  have h := mapTo_is f t n
  exact ⟨h.1, h.2.1, by rw [h.2.2.2]; exact Nat.le_refl _, by rw [h.2.2.1]; exact Nat.le_refl _, fun s => map_st s hf n⟩
theorem sz_choose (t : TS) : Sz t (chooseM t) t.s.po.length (t.s.po.length * t.s.po.length) := by
  have h := chooseM_io t
  exact ⟨h.1, h.2.1, h.2.2.2, h.2.2.1, choose_stB⟩
theorem block_st {x : Po} {d : Int} (h : 0 ≤ x.p11 ∧ x.p11 ≤ 2) : 0 ≤ (blockP x d).p11 ∧ (blockP x d).p11 ≤ 2 := by
  unfold blockP
  split
  · exact ⟨Int.le_refl _, by show (0 : Int) ≤ 2; omega⟩
  · exact h
theorem sz_answer (t : TS) (i : Nat) : Sz t (answerM t i) 1 0 := by
  unfold answerM
  split
  · split
    · refine ((sz_map (blkF i t.s.cf.p3) t t.s.po.length ?_).trans (sz_send _ i agrQ)).mono (by omega) (by omega)
      intro k x h
      unfold blkF
      split
      · exact h
      · exact block_st h
    · exact Sz.refl _ _ _
  · exact Sz.refl _ _ _
theorem sz_agree (t : TS) (i : Nat) (q : Pd) (v : Vc) : Sz t (agreeM t i q v) 0 t.s.po.length := by
  unfold agreeM
  split
  · next x hx =>
    have h1 := sz_set t i (agreeP x) (fun s => agree_st (s i x hx))
    split
    · split
      · refine (h1.trans (sz_changed _ i)).mono (by omega) (by rw [h1.n]; omega)
      · exact h1.mono (by omega) (by omega)
    · exact Sz.refl _ _ _
  · exact Sz.refl _ _ _
theorem sz_take (t : TS) (i : Nat) (q : Pd) (v : Vc) : Sz t (takeM t i q v) (t.s.po.length + 1) (t.s.po.length * t.s.po.length) := by
  unfold takeM
  split
  · next x hx =>
    have h1 := sz_set t i (hearP x (vecN x) v (IntKind.i64.wrap q.p12) t.s.cf) (fun s => hear_st (s i x hx))
    dsimp only
    split
    · split
      · exact (h1.trans (sz_tell _ i)).mono (by omega) (by omega)
      · exact h1.mono (by omega) (by omega)
    · split
      · have h2 := h1.trans (sz_choose _)
        rw [h1.n] at h2
        split
        · exact (h2.trans (sz_answer _ i)).mono (by omega) (by omega)
        · exact h2.mono (by omega) (by omega)
      · exact h1.mono (by omega) (by omega)
  · exact Sz.refl _ _ _
theorem sz_hear (t : TS) (i : Nat) (q : Pd) (v : Vc) : Sz t (hearM t i q v) (t.s.po.length + 1) (t.s.po.length + (t.s.po.length * t.s.po.length + t.s.po.length)) := by
  unfold hearM
  split
  · next x hx =>
    have h1 := sz_set t i (plainP x) (fun s => s i x hx)
    dsimp only
    have h2 : Sz t (if q.p0 = 128 ∨ q.p1 = true then spreadM (t.setPo (t.s.po.set i (plainP x))) i else t.setPo (t.s.po.set i (plainP x))) 0 t.s.po.length := by
      split
      · have := h1.trans (sz_spread _ i)
        rw [h1.n] at this
        exact this.mono (by omega) (by omega)
      · exact h1.mono (by omega) (by omega)
    generalize (if q.p0 = 128 ∨ q.p1 = true then spreadM (t.setPo (t.s.po.set i (plainP x))) i else t.setPo (t.s.po.set i (plainP x))) = t2 at h2
    split
    · exact h2.mono (by omega) (by omega)
    · split
      · have := h2.trans (sz_agree t2 i q v)
        rw [h2.n] at this
        exact this.mono (by omega) (by omega)
      · have := h2.trans (sz_take t2 i q v)
        rw [h2.n] at this
        exact this.mono (by omega) (by omega)
  · exact Sz.refl _ _ _
section
variable {cf : Cf} {po : List Po} {c : Nat → Int} {beat : Int} {N : Nat}
theorem hear_came (hN : po.length = N) (h : Iv (bare cf po c beat)) (hs : stB po) (p : Int) (q : Pd) {v : Vc} (hv : v.ok) : Came cf c N (hearC (bare cf po c beat) p q v) := by
  have hi := hear_iv h p q hv
  have hn := iv_few h
  have hnn : po.length * po.length ≤ 6 * 6 := Nat.mul_le_mul hn hn
  have no := none_came hN h hs
  unfold hearC at hi ⊢
  split
  · split
    · next x hx =>
      split
      · next ho =>
        have hc : 1 ≤ p ∧ p ≤ ((bare cf po c beat).po.length : Int) := by assumption
        rw [if_pos hc, hx] at hi
        dsimp only at hi
        rw [if_pos ho] at hi
        have z := sz_hear ⟨bare cf po c beat, [], []⟩ (p - 1).toNat q v
        have hx2 : po[(p - 1).toNat]? = some (poU x (vecN x)) := by rw [← okP_poU (h.ok _ x hx)]; exact hx
        have r := hearM_rest (t := ⟨bare cf po c beat, [], []⟩) (i := (p - 1).toNat) (x := x) (u := vecN x) q v hx2
        exact ⟨z.cf, r, z.n.trans hN, hi, z.st hs, by have := z.told; simp only [List.length_nil] at this; omega, by have := z.fl; simp only [List.length_nil] at this; omega⟩
      · exact no
    · exact no
  · exact no
end
end
section
/- Layer 18's law: TreePlays' walk. -/
open Go.RowKit
open Ev
set_option maxRecDepth 100000
theorem ac_len (x : Ac) : (aqC x).length = 14 := rfl
theorem ac_one (x : Ac) : ∀ u ∈ aqC x, u.oneCell' = true := by
  intro u hu
  simp [aqC, aqA] at hu
  rcases hu with rfl | rfl | rfl | rfl | rfl | rfl | rfl | rfl | rfl | rfl | rfl | rfl | rfl | rfl <;> rfl
theorem ac_info : ∃ i z b, Tryd.prog.info? 56 = some i ∧ i.zero = some z ∧ i.size = 14 ∧ i.bytes = b ∧ z.cells.size = 14 ∧ b ≤ 1000 := ⟨_, _, _, rfl, rfl, rfl, rfl, rfl, by decide⟩
theorem acT : ElT Tryd.prog 26 56 14 aqC := ⟨by kernel_rfl, ac_info, by decide, ac_len, ac_one⟩
theorem acE : ElV Tryd.prog 26 56 14 aqC (fun x => .agg (aqA x)) := ⟨acT, by kernel_rfl, fun x => by simp [Value.cells, aqC], .inl ⟨by kernel_rfl, fun x => by simp [aqC]⟩⟩
theorem ac_row : rowT Tryd.prog 56 = true := by kernel_rfl
theorem tw_switchC {s : StT} (g : Gd ⟨s, [], []⟩) (p : Int) (up ad : Bool) : Acts 47 15 [iv p, .bool up, .bool ad] ⟨s, [], []⟩ (switchC s p up ad) := by
  by_cases hp : 1 ≤ p ∧ p ≤ (s.po.length : Int)
  · obtain ⟨i, rfl⟩ : ∃ i : Nat, p = (i : Int) + 1 := ⟨(p - 1).toNat, by omega⟩
    obtain ⟨x, hx⟩ : ∃ x, s.po[i]? = some x := ⟨_, List.getElem?_eq_getElem (by omega)⟩
    rw [switch_is hx]
    exact tw_switch g (Nat.zero_le _) hx up ad
  · have e : switchC s p up ad = ⟨s, [], []⟩ := by unfold switchC; rw [if_neg hp]
    rw [e]
    exact tw_switch_no p up ad hp
theorem tw_hearC {s : StT} (g : Gd ⟨s, [], []⟩) (p : Int) (h0 : 0 ≤ p ∧ p ≤ 1000) (q : Pd) (v : Vc) (hv : v.ok) : Acts 47 18 [iv p, pdV (pdU q v)] ⟨s, [], []⟩ (hearC s p q v) := by
  have hn : s.po.length ≤ 16 := g.n
  by_cases hp : ∃ i x, p = ((i : Nat) : Int) + 1 ∧ s.po[i]? = some x ∧ onP x = true
  · obtain ⟨i, x, rfl, hx, ho⟩ := hp
    have hk := (List.getElem?_eq_some_iff.1 hx).1
    have e : hearC s ((i : Int) + 1) q v = hearM ⟨s, [], []⟩ i q v := by
      unfold hearC
      rw [if_pos ⟨by omega, by omega⟩, show ((i : Int) + 1 - 1).toNat = i by omega, hx]
      dsimp only
      rw [if_pos ho]
    rw [e]
    exact tw_hear g (Nat.zero_le _) (Nat.zero_le _) hx ho q v hv
  · have e : hearC s p q v = ⟨s, [], []⟩ := by
      unfold hearC
      split
      · next hc =>
        split
        · next x hx =>
          rw [if_neg (fun ho => hp ⟨(p - 1).toNat, x, by omega, hx, ho⟩)]
        · rfl
      · rfl
    rw [e]
    refine tw_hear_no p (pdU q v) h0 (by show s.po.length ≤ 1000; omega) fun i x hi hx => ?_
    cases ho : onP x
    · rfl
    · exact absurd ⟨i, x, hi, hx, ho⟩ hp
section
variable {cf : Cf} {c : Nat → Int} {N : Nat} {T : TS}
def Rst (cf : Cf) (c : Nat → Int) (N : Nat) (T : TS) : Type := {z : (List Po × Int) × (List Td × List Int) // T = ⟨bare cf z.1.1 c z.1.2, z.2.1, z.2.2⟩ ∧ z.1.1.length = N ∧ Iv (bare cf z.1.1 c z.1.2) ∧ stB z.1.1 ∧ z.2.1.length ≤ 1900 ∧ z.2.2.length ≤ 1900}
def Came.y (h : Came cf c N T) : Rst cf c N T := ⟨((T.s.po, T.s.beat), (T.told, T.fl)), by
  obtain ⟨po, beat, told, fl, rfl, h1, h2, h3, h4, h5⟩ := h.is
  exact ⟨rfl, h1, h2, h3, h4, h5⟩⟩
end
theorem pm1 : (List.range 17).Perm [0, 1, 2, 3, 4, 5, 7, 8, 9, 10, 6, 11, 12, 13, 14, 15, 16] := by decide
theorem pm2 : (List.range 23).Perm [3, 4, 5, 13, 17, 6, 10, 11, 12, 0, 1, 2, 14, 15, 16, 18, 19, 20, 7, 8, 9, 21, 22] := by decide
theorem pm3 : (List.range 23).Perm [4, 5, 6, 0, 1, 2, 7, 8, 3, 9, 10, 11, 12, 13, 14, 15, 16, 17, 18, 19, 20, 21, 22] := by decide
theorem pm4 : (List.range 23).Perm [9, 10, 11, 3, 4, 5, 8, 2, 12, 13, 14, 21, 22, 0, 1, 6, 7, 15, 16, 17, 18, 19, 20] := by decide
theorem pm5 : (List.range 17).Perm [11, 7, 3, 4, 5, 6, 0, 1, 2, 12, 13, 14, 8, 9, 10, 15, 16] := by decide
theorem pm6 : (List.range 2).Perm [1, 0] := by decide
theorem pm7 : (List.range 19).Perm [8, 9, 10, 2, 3, 4, 7, 1, 11, 12, 13, 17, 18, 0, 5, 6, 14, 15, 16] := by decide
theorem nil2_own (A : Bds) : ∀ w0 F R w, Kf w0 F ((sepL A).sep R) w → Kf w0 F ((sepL (tO z00 [] :: fO z00 [] :: A)).sep R) w := fun w0 F R w K => nil_own 89 17 tdC _ w0 F R w (nil_own 3 1 inC _ w0 F R w K)
structure LI (cf : Cf) (c : Nat → Int) (N n2 : Nat) where
  k : Nat
  hk : k ≤ n2
  po : List Po
  beat : Int
  hN : po.length = N
  iv : Iv (bare cf po c beat)
  st : stB po
  x : H4
  y : H4
  o : Value × Value
section
variable (x0 : Sg) (a : Option Addr) (n m : Nat) (a2 : Option Addr) (n2 m2 : Nat) (l2 : List Ac) (cf : Cf) (c : Nat → Int) (N : Nat) (X1 X2 R : Bd)
def lwS (e : List (Nat × SV)) (j : LI cf c N n2) : Ev.St := ⟨sp 133 ([(1, .v (.slice a2 n2 m2)), (2, .p 0 0), (5, .p 1 0), (6, .p 2 0), (7, .p 3 0)] ++ e),
  [(sgA x0 (.slice a n m), 25), ((sV N (bare cf j.po c j.beat) j.x).cells, 40), (acA ⟨bare cf j.po c j.beat, [], []⟩ (hNp N j.y) z00, 47), (#[j.o.1, j.o.2], 49)],
  V3 j.y ++ ([pO N j.y j.po, tO z00 [], fO z00 [], bdR, pO N j.x j.po] ++ (V3 j.x ++ [X1, X2, R]))⟩
theorem lw_loop (hX : Reads X2 a2 14 aqC l2) (hl2 : l2.length = n2) (j0 : LI cf c N n2) (h00 : j0.k = 0) : TY Tryd.prog 0 (.loop (loopN Tryd.prog 3 0)) (lwS x0 a n m a2 n2 m2 cf c N X1 X2 R [(8, .v (iv (0 : Nat)))] j0) (LI cf c N n2) (.exit 0) (fun j => lwS x0 a n m a2 n2 m2 cf c N X1 X2 R [] j) := by
  rw [show lwS x0 a n m a2 n2 m2 cf c N X1 X2 R [(8, .v (iv (0 : Nat)))] j0 = lwS x0 a n m a2 n2 m2 cf c N X1 X2 R [(8, .v (iv (j0.k : Nat)))] j0 by rw [h00]]
  refine T_loop (I := LI cf c N n2) (fun j => lwS x0 a n m a2 n2 m2 cf c N X1 X2 R [(8, .v (iv (j.k : Nat)))] j) (fun j => n2 - j.k) (by simp) _ (fun ⟨k, hk, po, beat, hN, iw, st, x, y, o⟩ => ?_) j0
  have hfew := iv_few iw
  have hN6 : N ≤ 6 := by omega
  have g := bare_gd iw st
  have few : Few (bare cf po c beat) := ⟨by show po.length ≤ 1000; omega, Nat.zero_le _, Nat.zero_le _, Nat.zero_le _⟩
  refine step_at (lwS x0 a n m a2 n2 m2 cf c N X1 X2 R [(8, .v (iv (k : Nat)))] ⟨k, hk, po, beat, hN, iw, st, x, y, o⟩) rfl ?_ ?_ (Nat.zero_le _)
  exact fun go out =>
    let act (hkn : k < n2) (h6 : k < 60) (w : H4) (f : FuncId) (args : List Value) (T : TS) (hC : Came cf c N T) (hp : Fun Tryd.prog f (stH (bare cf po c beat) x :: args) (bdR :: stN (bare cf po c beat) x) (H4 × H2) (evAns (bare cf po c beat) T) (evOwn (bare cf po c beat) x T)) (ft : FuncId) (targs : List Value) (ha : Acts 47 ft targs ⟨bare cf po c beat, [], []⟩ T) : List (Ora Tryd.prog) :=
      [.ob (Rst cf c N T) hC.y fun z => [
        oPm _ (V3 y ++ ([pO N y po, tO z00 [], fO z00 [], bdR, pO N w po] ++ (V3 w ++ (pO N x po :: (V3 x ++ [X1, X2]))))) 17 rfl pm1,
        oF (call_N hN x hp z.2.1) (((none, 0), (none, 0), (none, 0), (none, 0)), ((none, 0), (none, 0))) 10 fun y1 => [
        oPm _ (V3 y ++ ([pO N y po, tO z00 [], fO z00 [], pO N w po] ++ (V3 w ++ ([pO N y1.1 z.1.1.1, tO y1.2 z.1.2.1, fO y1.2 z.1.2.2, bdR] ++ (V3 y1.1 ++ (pO N x po :: (V3 x ++ [X1, X2]))))))) 23 rfl pm2,
        oM (acts_N ha rfl z.2.1 hN y) 2 0 fun zt => [
        oPm _ ([pO N y z.1.1.1, tO zt z.1.2.1, fO zt z.1.2.2, bdR, pO N x po, pO N w po, pO N y1.1 z.1.1.1, tO y1.2 z.1.2.1, fO y1.2 z.1.2.2] ++ (V3 y ++ (V3 y1.1 ++ (V3 x ++ (V3 w ++ [X1, X2]))))) 23 rfl pm3,
        oU true (same_N cf c beat hN (by omega) x w) 0, No, oM (twsame_N cf c z.1.1.2 z.1.2.1 z.1.2.2 z.2.2.1 (by omega) (by have := z.2.2.2.2.2.1; omega) (by have := z.2.2.2.2.2.2; omega) y1.1 y zt y1.2) 2 2 fun _ => [No,
        oPm _ ([pO N x po, pO N w po, pO N y1.1 z.1.1.1, pO N y z.1.1.1, tO z00 [], fO z00 [], tO y1.2 z.1.2.1, fO y1.2 z.1.2.2, bdR] ++ (V3 y ++ (V3 y1.1 ++ (V3 x ++ (V3 w ++ [X1, X2]))))) 23 rfl pm4,
        oDr 13 ([pO N x po, pO N w po, tO y1.2 z.1.2.1, fO y1.2 z.1.2.2] ++ (V3 x ++ V3 w)), .r _ _ (wrap_next (k := k) (n := 60) h6 (by omega)),
        go ⟨k + 1, hkn, z.1.1.1, z.1.1.2, z.2.2.1, z.2.2.2.1, z.2.2.2.2.1, y1.1, y, (.slice y1.2.1.1 z.1.2.1.length y1.2.1.2, .slice y1.2.2.1 z.1.2.2.length y1.2.2.2)⟩ (by show n2 - (k + 1) < n2 - k; omega) _ rfl]]]]]
    [.sp (decide ((k : Int) < (n2 : Int)))
      (fun d => [.sp (decide ((k : Int) < 60))
        (fun d6 =>
          have hkn : k < n2 := by simpa using d
          have h6 : k < 60 := by have := of_decide_eq_true d6; omega
          [.b _ _ d, .b _ _ d6, .so _ l2[k]? (fun hx => [.no (by simp at hx; omega)]) fun w hw => [oXx acE 12 n2 m2 hX hkn hl2, oXd acE (fun _ => rfl) ac_row 12 hX hw, .k, .r _ _ (remC .i64 w.po 8 (by decide) (by decide)),
            oF (clone_N cf c beat hN (by omega) x) ((none, 0), (none, 0), (none, 0), (none, 0)) 7 fun hw1 => [.r _ _ (rem8 w.wh 10), .sp (decide (((w.wh % 10 : Nat) : Int) = 0))
              (fun e0 => [.b _ _ e0, Yes] ++ act hkn h6 hw1 12 [] (tickM (bare cf po c beat)) (tick_came hN iw st) (tick_fun (bare cf po c beat) x few (by show po.length ≤ 16; omega) iw.id.1 (fadeM_gd g).1.ok) 13 [] (tw_tick g (Nat.zero_le _)))
              (fun e0 => [.b _ _ e0, .sp (decide (((w.wh % 10 : Nat) : Int) = 1))
                (fun e1 => [.b _ _ e1] ++ act hkn h6 hw1 12 [] (tickM (bare cf po c beat)) (tick_came hN iw st) (tick_fun (bare cf po c beat) x few (by show po.length ≤ 16; omega) iw.id.1 (fadeM_gd g).1.ok) 13 [] (tw_tick g (Nat.zero_le _)))
                (fun e1 => [.b _ _ e1, .sp (decide (((w.wh % 10 : Nat) : Int) = 2))
                  (fun e2 => [.b _ _ e2] ++ act hkn h6 hw1 14 [iv ((w.po % 8 : Nat) : Int), .bool w.f0, .bool w.f3] (switchC (bare cf po c beat) ((w.po % 8 : Nat) : Int) w.f0 w.f3) (switch_came hN iw st _ _ _) (switch_fun (bare cf po c beat) x few (by show po.length ≤ 16; omega) iw.id.1 iw.ok _ _ _) 15 [iv ((w.po % 8 : Nat) : Int), .bool w.f0, .bool w.f3] (tw_switchC g _ _ _))
                  (fun e2 => [.b _ _ e2, .sp (decide (((w.wh % 10 : Nat) : Int) = 9))
                    (fun e9 => [.b _ _ e9, .r _ _ (rem8 w.v0 4), .sp (decide (((w.v0 % 4 : Nat) : Int) = 0))
                      (fun e4 => [.b _ _ e4] ++ act hkn h6 hw1 9 [] (startM (bare cf po c beat)) (start_came hN hfew iw.ok (start_iv iw.ro.pre hfew iw.id) st) (start_fun (bare cf po c beat) x few (by show po.length ≤ 16; omega) iw.id.1 (startG_gd g).1.ok) 10 [] (tw_start g))
                      (fun e4 => [.b _ _ e4,
                        oPm _ (V3 y ++ ([pO N y po, tO z00 [], fO z00 [], bdR, pO N hw1 po] ++ (V3 hw1 ++ (pO N x po :: (V3 x ++ [X1, X2]))))) 17 rfl pm5,
                        oU true (same_N cf c beat hN (by omega) x hw1) 0, No, oPm _ [pO N x po, pO N hw1 po] 2 rfl pm6, .a 5 [] _ (nil2_own []),
                        oM (twsame_N cf c beat [] [] hN (by omega) (Nat.zero_le _) (Nat.zero_le _) x y z00 z00) 2 1 fun _ => [No,
                        oPm _ ([pO N hw1 po, pO N x po, pO N y po, tO z00 [], fO z00 [], tO z00 [], fO z00 [], bdR] ++ (V3 y ++ (V3 x ++ (V3 hw1 ++ [X1, X2])))) 19 rfl pm7,
                        oDr 13 ([pO N hw1 po, tO z00 [], fO z00 []] ++ V3 hw1), .r _ _ (wrap_next (k := k) (n := 60) h6 (by omega)),
                        go ⟨k + 1, hkn, po, beat, hN, iw, st, x, y, (.slice none 0 0, .slice none 0 0)⟩ (by show n2 - (k + 1) < n2 - k; omega) _ rfl]])])
                    (fun e9 => [.b _ _ e9, .ob {z : Pd × Vc // pduQ w = z.1 ∧ pduV w (bare cf po c beat) ((w.po % 8 : Nat) : Int) = z.2} ⟨(_, _), rfl, rfl⟩ fun z =>
                      have hv : z.1.2.ok := by rw [← z.2.2]; exact pduV_ok iw.ok
                      have hP : Fun Tryd.prog 16 [.agg (aqA w), sV N (bare cf po c beat) x, iv ((w.po % 8 : Nat) : Int)] [pO N x po] Unit (fun _ => pdV (pdU z.1.1 z.1.2)) (fun _ => [pO N x po]) := by rw [← z.2.1, ← z.2.2]; exact pdu_N w cf c beat hN (by omega) iw.ok x ((w.po % 8 : Nat) : Int)
                      oU true hP 11 :: act hkn h6 hw1 17 [iv ((w.po % 8 : Nat) : Int), pdV (pdU z.1.1 z.1.2)] (hearC (bare cf po c beat) ((w.po % 8 : Nat) : Int) z.1.1 z.1.2) (hear_came hN iw st _ _ hv) (hear_fun (bare cf po c beat) x few (by show po.length ≤ 16; omega) iw.id.1 iw.ok _ _ _ hv) 18 [iv ((w.po % 8 : Nat) : Int), pdV (pdU z.1.1 z.1.2)] (tw_hearC g _ (by omega) _ _ hv)])])])])]]])
        (fun d6 => [.b _ _ d, .b _ _ d6, out ⟨k, hk, po, beat, hN, iw, st, x, y, o⟩ _ rfl])])
      (fun d => [.b _ _ d, No, out ⟨k, hk, po, beat, hN, iw, st, x, y, o⟩ _ rfl])]
  intro _ _; kernel_rfl
end
end
end Go.Proofs.YtebnpblincgjlaaDoor
