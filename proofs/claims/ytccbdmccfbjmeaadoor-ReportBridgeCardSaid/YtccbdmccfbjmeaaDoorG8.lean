import Derived.Test.YtccbdmccfbjmeaaDoorG7
set_option linter.unusedSimpArgs false
set_option linter.unusedVariables false
section
/- A verified evaluator: code, its soundness. -/
namespace Go.Proofs.YtccbdmccfbjmeaaDoor.Ev
open Go.RowKit

section
variable {P : Program} {ops : Array Oper} {F : Fm} {β : List Nat} {w0 w : World} {a : Act} {Q : Exit → Act → World → Prop}
theorem wp_of_step {o : Oper} {K : Act → World → Prop} (h : stepW P o a.eval (fun u w' => K (a.put o.dst u) w') w) : o.wp P a w K Q := by
  unfold Oper.wp
  unfold stepW at h
  revert h
  generalize (execOp a.eval o).run P w = r
  intro h
  cases r with
  | halt x w2 => exact False.elim h
  | ok n w2 =>
    cases n <;> first | exact False.elim h | skip
    case value u => exact h
    case skip => exact h
    case enter f args => exact Calls.mono h fun e w3 h => by obtain ⟨u, rfl, hK⟩ := h; exact hK
    case row row args => exact Rows.mono h fun u w3 h => h
theorem Rel.eval {s : St} (R : Rel w0 F β s a w) (x : Operand) (h : (rhoS s.fr x).known = true) : a.eval x = (rhoS s.fr x).den β := by
  cases x with
  | tmp t =>
    show a.tmps.getD t undef = (s.fr.getD t (.v undef)).den β
    have h : (s.fr.getD t (.v undef)).known = true := h
    rw [List.getD_eq_getElem?_getD] at h ⊢
    cases c : s.fr[t]? with
    | none =>
      rw [Array.getD_eq_getD_getElem?, Array.getElem?_eq_none (by rw [R.sz]; exact List.getElem?_eq_none_iff.1 c)]
      rfl
    | some sv => rw [c] at h; exact SV.ok_den (R.fr t sv c) h
  | _ => rfl
theorem Rel.rho {s : St} (R : Rel w0 F β s a w) (x : Operand) : (rhoS s.fr x).lt s.m.length := by
  cases x with
  | tmp t =>
    show (s.fr.getD t (.v undef)).lt _
    rw [List.getD_eq_getElem?_getD]
    cases c : s.fr[t]? with
    | none => trivial
    | some sv => exact R.wf sv (List.mem_of_getElem? c)
  | _ => trivial
theorem SV.ok_app {sv : SV} {n : Nat} {x : Value} (h : sv.ok β x) (hlt : sv.lt n) (hn : β.length = n) (t : List Nat) : sv.ok (β ++ t) x := by
  cases sv with
  | u => trivial
  | v y => exact h
  | p l o =>
    have h : x = (SV.p l o).den β := h
    show x = (SV.p l o).den (β ++ t)
    rw [h, SV.den_app hlt hn t]
  | s l o =>
    have h : x = (SV.s l o).den β := h
    show x = (SV.s l o).den (β ++ t)
    rw [h, SV.den_app hlt hn t]
  | g n f =>
    have h : x = (SV.g n f).den β := h
    show x = (SV.g n f).den (β ++ t)
    rw [h, SV.den_app hlt hn t]
theorem Rel.put {s : St} (R : Rel w0 F β s a w) {sv : SV} {m' : Mem} {A' : Bds} {t : List Nat} {w' : World} {x : Value} (d : Option Tmp) (hl : (β ++ t).length = m'.length) (hs : sv.lt m'.length) (hx : sv.ok (β ++ t) x) (k : Kv w0 F (β ++ t) m' A' w') :
    Rel w0 F (β ++ t) ⟨putS s.fr d sv, m', A'⟩ (a.put d x) w' := by
  have hle : s.m.length ≤ m'.length := by rw [← R.len, ← hl, List.length_append]; omega
  have hfr : ∀ (i : Nat) (sv : SV), s.fr[i]? = some sv → sv.ok (β ++ t) (a.tmps.getD i undef) := fun i sv h => SV.ok_app (R.fr i sv h) (R.wf sv (List.mem_of_getElem? h)) R.len t
  cases d with
  | none => exact ⟨R.sz, hfr, R.df, hl, fun x hx => SV.lt_mono (R.wf x hx) hle, k⟩
  | some d =>
    refine ⟨by show (a.tmps.setIfInBounds d x).size = (s.fr.set d sv).length; simp [R.sz], fun i sv2 h => ?_, R.df, hl, fun x hx => ?_, k⟩
    · show sv2.ok _ ((a.tmps.setIfInBounds d x).getD i undef)
      have h : (s.fr.set d sv)[i]? = some sv2 := h
      rw [Array.getD_eq_getD_getElem?, Array.getElem?_setIfInBounds]
      by_cases c : d = i
      · subst c
        have hlt : d < s.fr.length := by have := (List.getElem?_eq_some_iff.1 h).1; simpa using this
        rw [List.getElem?_set_self hlt] at h
        injection h with h
        rw [if_pos rfl, if_pos (by rw [R.sz]; exact hlt), ← h]
        exact hx
      · rw [List.getElem?_set_ne c] at h
        rw [if_neg c, ← Array.getD_eq_getD_getElem?]
        exact hfr i sv2 h
    · rcases List.mem_or_eq_of_mem_set hx with q | q
      · exact SV.lt_mono (R.wf x q) hle
      · rw [q]; exact hs
theorem Rel.want {s : St} (R : Rel w0 F β s a w) {o : Oper} {b : Bool} (h : wantS ops s.fr o = some b) : Region.wanted o (yielded ops a.tmps) = b := by
  unfold wantS at h
  unfold Region.wanted
  split at h
  · next c => rw [c]; injection h
  · next j want c =>
    rw [c]
    split at h
    · next d hd =>
      split at h
      · next b2 hb =>
        injection h with h
        have e : yielded ops a.tmps j = some b2 := by
          unfold yielded
          rw [hd]
          show (match a.tmps[d]? with | some (.bool b) => some b | _ => none) = some b2
          have hlt : d < a.tmps.size := by rw [R.sz]; exact (List.getElem?_eq_some_iff.1 hb).1
          have q : a.tmps.getD d undef = .bool b2 := SV.ok_den (R.fr d _ hb) rfl
          rw [Array.getD_eq_getD_getElem?, Array.getElem?_eq_getElem hlt] at q
          have q : a.tmps[d] = .bool b2 := q
          rw [Array.getElem?_eq_getElem hlt, q]
        show (yielded ops a.tmps j == some want) = b
        rw [e, ← h]
        cases b2 <;> cases want <;> rfl
      · next x hnb hb =>
        injection h with h
        have e : yielded ops a.tmps j = none := by
          unfold yielded
          rw [hd]
          show (match a.tmps[d]? with | some (.bool b) => some b | _ => none) = none
          have hlt : d < a.tmps.size := by rw [R.sz]; exact (List.getElem?_eq_some_iff.1 hb).1
          have q : a.tmps.getD d undef = x := SV.ok_den (R.fr d _ hb) rfl
          rw [Array.getD_eq_getD_getElem?, Array.getElem?_eq_getElem hlt] at q
          have q : a.tmps[d] = x := q
          rw [Array.getElem?_eq_getElem hlt, q]
          cases x <;> first | rfl | exact (hnb _ rfl).elim
        show (yielded ops a.tmps j == some want) = b
        rw [e, ← h]
        rfl
      · cases h
    · cases h
theorem take_le {β β' : List Nat} {q q' : Nat} (h : β'.take q' = β.take q') (hq : q ≤ q') : β'.take q = β.take q := by
  have := congrArg (List.take q) h
  rw [List.take_take, List.take_take, Nat.min_eq_left hq] at this
  exact this
theorem take_app {β t : List Nat} {q : Nat} (h : q ≤ β.length) : (β ++ t).take q = β.take q := List.take_append_of_le_length h
theorem okk2 {Y Z : Type} {f f' : Y → List Tk} {g g' : Z → List Tk} (h : [Tk.fn Y f, Tk.fn Z g] = [Tk.fn Y f', Tk.fn Z g']) : f = f' ∧ g = g' := by
  simp only [List.cons.injEq, Tk.fn.injEq, heq_eq_eq, true_and, and_true] at h
  exact h
theorem evA_sound : ∀ {n : Nat} {s : St} {r : List (Ora P)} {K : St → List (Ora P) → Pr}, okP (evA P n s r K) → Rel w0 F β s a w → ∃ s' r', okP (K s' r') ∧ Rel w0 F β s' a w ∧ s'.m = s.m
  | 0, s, r, K, h, R => ⟨_, _, h, R, rfl⟩
  | n + 1, s, r, K, h, R => by
    unfold evA at h
    split at h
    · next p A1 A2 hh r1 =>
      obtain ⟨hk, h⟩ := okP_and h
      obtain ⟨s', r', k1, k2, k3⟩ := evA_sound (n := n) (s := ⟨s.fr, s.m, setB s.A A1 A2 p⟩) h ⟨R.sz, R.fr, R.df, R.len, R.wf, Kf.ofMid (hh w0 _ _ w (mid_in (hk [] default) R.k))⟩
      exact ⟨s', r', k1, k2, k3⟩
    · next c t e r1 =>
      cases hc : c with
      | true => exact evA_sound (n := n) (fun β w => congrFun (okk2 (h β w)).1 ⟨hc⟩) R
      | false => exact evA_sound (n := n) (fun β w => congrFun (okk2 (h β w)).2 ⟨hc⟩) R
    · next α o f g r1 =>
      cases hc : o with
      | none => exact evA_sound (n := n) (fun β w => congrFun (okk2 (h β w)).1 ⟨hc⟩) R
      | some x => exact evA_sound (n := n) (fun β w => congrFun (okk2 (h β w)).2 ⟨x, ⟨hc⟩⟩) R
    · next Y y f r1 => exact evA_sound (n := n) (okP_all h y) R
    · next hf r1 => exact hf.elim
    · next p A1 Y q hu f r1 =>
      obtain ⟨hk, h⟩ := okP_and h
      obtain ⟨y, hy⟩ := hu w (mid_in (hk [] default) R.k).a.1
      exact evA_sound (n := n) (okP_all h ⟨y, ⟨hy⟩⟩) R
    · exact ⟨_, _, h, R, rfl⟩
theorem evL_sound {q : Nat} (K : St → List (Ora P) → Pr) : ∀ (l : List Oper) (i : Nat) (s : St) (r : List (Ora P)) (β : List Nat) (a : Act) (w : World), okP (evL P ops i l s r K) → Rel w0 F β s a w → q ≤ s.m.length →
    (∀ s' r' β' a' w', okP (K s' r') → Rel w0 F β' s' a' w' → β'.take q = β.take q → q ≤ s'.m.length → Q .normal a' w') → wpList P ops Q l a w
  | [], i, s, r, β, a, w, h, R, hq, hQ => by
    unfold evL at h
    obtain ⟨s, r, h, R, em⟩ := evA_sound h R
    exact wpList_nil (hQ s r β a w h R rfl (by rw [em]; exact hq))
  | o :: l, i, s, r, β, a, w, h, R, hq, hQ => by
    unfold evL at h
    obtain ⟨s, r, h, R, em⟩ := evA_sound h R
    rw [← em] at hq
    split at h
    · next hw =>
      cases ckn : knows o (rhoS s.fr) with
      | false => rw [ckn] at h; exact (okP_no h).elim
      | true =>
      rw [ckn] at h
      simp only [cond_true] at h
      split at h
      · next Y f k hev =>
        have hev : evH P o (rhoS s.fr) s.m s.A r = some ⟨Y, f, k⟩ := by
          cases c : asksR P o (rhoS s.fr) r with
          | true => rw [c] at hev; exact hev
          | false => rw [c] at hev; cases hev
        obtain ⟨hk, h⟩ := okP_and h
        refine BigFrame.wpList_want (R.want hw) fun K' hK => wp_of_step ?_
        refine step_known ckn (fun x hx => R.eval x hx) ?_
        refine stepS_mono (evH_sound hev hk R.len R.k) fun u w' ⟨y, t, hlt, hl, eu, kv⟩ => hK _ _ ?_
        have h := okP_all h y
        rw [svK_eq, spine_eq, memK_eq] at h
        have R2 := R.put (x := u) o.dst hl hlt (by rw [eu]; exact SV.den_ok) kv
        have hl2 : q ≤ (f y).2.1.length := by rw [← hl, List.length_append, R.len]; omega
        exact evL_sound K l (i + 1) _ _ (β ++ t) _ w' h R2 hl2 fun s' r' β' a' w' k1 k2 k3 k4 => hQ s' r' β' a' w' k1 k2 (k3.trans (take_app (by rw [R.len]; exact hq))) k4
      · split at h
        · next sv m1 A1 r1 k1 hop =>
          split at h
          · next sv2 r2 k2 hdec =>
            obtain ⟨hk, h⟩ := okP_and h
            have hk1 : ∀ β w, okk (k1 β w) := fun β w => (okk_app.1 (hk β w)).1
            have hk2 : ∀ β w, okk (k2 β w) := fun β w => (okk_app.1 (hk β w)).2
            obtain ⟨hlt, hst⟩ := evOp_sound hop hk1 R.rho R.len R.k
            refine BigFrame.wpList_want (R.want hw) fun K' hK => wp_of_step ?_
            refine step_known ckn (fun x hx => R.eval x hx) ?_
            refine stepS_mono hst fun u w' ⟨t, hl, eu, kv⟩ => hK _ _ ?_
            have hsv : sv2.ok (β ++ t) u ∧ sv2.lt m1.length := by
              unfold decB at hdec
              cases c : isGuard ops i with
              | false =>
                rw [c] at hdec
                simp only [cond_false] at hdec
                cases c2 : isAr o.op with
                | false =>
                  rw [c2] at hdec
                  injection hdec with hdec
                  obtain ⟨rfl, rfl, rfl⟩ := hdec
                  exact ⟨by rw [eu]; exact SV.den_ok, hlt⟩
                | true =>
                  rw [c2] at hdec
                  simp only [cond_true] at hdec
                  split at hdec
                  · next v0 v1 hcv r3 =>
                    injection hdec with hdec
                    obtain ⟨rfl, rfl, rfl⟩ := hdec
                    have q := hk2 (β ++ t) default
                    simp only [okk_cons] at q
                    obtain ⟨q, -⟩ := q
                    injection q with q
                    exact ⟨by rw [eu, q, hcv]; rfl, trivial⟩
                  · injection hdec with hdec
                    obtain ⟨rfl, rfl, rfl⟩ := hdec
                    exact ⟨by rw [eu]; exact SV.den_ok, hlt⟩
                  · injection hdec with hdec
                    obtain ⟨rfl, rfl, rfl⟩ := hdec
                    exact ⟨by rw [eu]; exact SV.den_ok, hlt⟩
              | true =>
                rw [c] at hdec
                simp only [cond_true] at hdec
                split at hdec
                · next c0 v0 hcv r3 =>
                  injection hdec with hdec
                  obtain ⟨rfl, rfl, rfl⟩ := hdec
                  have q := hk2 (β ++ t) default
                  simp only [okk_cons] at q
                  obtain ⟨q, -⟩ := q
                  injection q with q
                  exact ⟨by rw [eu, q, hcv]; rfl, trivial⟩
                · cases hdec
            rw [svK_eq, spine_eq, memK_eq] at h
            have R2 := R.put (x := u) o.dst hl hsv.2 hsv.1 kv
            have hl2 : q ≤ m1.length := by rw [← hl, List.length_append, R.len]; omega
            exact evL_sound K l (i + 1) _ _ (β ++ t) _ w' h R2 hl2 fun s' r' β' a' w' k1 k2 k3 k4 => hQ s' r' β' a' w' k1 k2 (k3.trans (take_app (by rw [R.len]; exact hq))) k4
          · exact (okP_no h).elim
        · exact (okP_no h).elim
    · next hw =>
      rw [spine_eq] at h
      have R2 := R.put (sv := .v undef) (t := []) (x := undef) o.dst (by rw [List.append_nil]; exact R.len) trivial rfl (by rw [List.append_nil]; exact R.k)
      rw [List.append_nil] at R2
      exact wpList_skip (R.want hw) (evL_sound K l (i + 1) _ _ β _ w h R2 hq hQ)
    · exact (okP_no h).elim
/-- A way through the holes. -/
inductive Run (ops : Array Oper) (fr : List SV) : Nat → AR P → Acc P → List (HD P) → Prop
  | done {n : Nat} {acc : Acc P} : Run ops fr n (.done acc) acc []
  | hole {n i : Nat} {o : Oper} {l : List Oper} {acc : Acc P} {Y : Type} {y0 : Y} {wh : Wh} {lo : List (Nat × Array Value × TypeId)} {p : Nat} {A : Bds} {A' : Y → Bds} {v : Y → Value}
      {hsp : ∀ w0 F R β w, (∀ x ∈ lo, ∃ k, F k = some (β.getD x.1 0, x.2)) → Kf w0 F ((sepL A).sep R) w → whStep P wh β (fun u w' => ∃ y, u = v y ∧ Kf w0 F ((sepL (A' y)).sep R) w') w} {rest : Y → List (Ora P)} {rr : List (Ora P)} {acc' : Acc P} {hd : List (HD P)}
      (e : acc.r = .e Y y0 wh lo p A A' v hsp rest :: rr) (y : Y) (h : Run ops fr n (nextAR P ops fr i l acc p A (A' y) (v y) (rest y)) acc' hd) :
      Run ops fr (n + 1) (.hole i o l acc) acc' (⟨i, ctOf P (dflt P ops fr n (nextAR P ops fr i l acc p A (A' y0) (v y0) (rest y0))), wh, lo, p, A, A' y, v y⟩ :: hd)
theorem evHoles_all {fr : List SV} {K : Acc P → List (HD P) → Pr} : ∀ {n : Nat} {ar : AR P} {hd : List (HD P)}, okP (evHoles P ops fr K n ar hd) → (∃ acc hd', Run ops fr n ar acc hd') ∧ ∀ acc hd', Run ops fr n ar acc hd' → okP (K acc (hd ++ hd'))
  | n, .done acc, hd, h => by
    have h : okP (K acc hd) := by cases n <;> exact h
    refine ⟨⟨acc, [], .done⟩, fun acc' hd' R => ?_⟩
    cases R
    rw [List.append_nil]
    exact h
  | n + 1, .hole i o l acc, hd, h => by
    unfold evHoles at h
    split at h
    · next Y y0 wh lo p A A' v hsp rest rr hr =>
      have ih := fun y => evHoles_all (okP_all h y)
      refine ⟨?_, fun acc' hd' R => ?_⟩
      · obtain ⟨acc', hd', R⟩ := (ih y0).1
        exact ⟨acc', _, .hole hr y0 R⟩
      · cases R with
        | hole e y R =>
          rw [hr] at e
          injection e with e _
          injection e with e1 e2 e3 e4 e5 e6 e7 e8 e9
          subst e1 e3 e4 e5 e6
          have e2 := eq_of_heq e2
          have e7 := eq_of_heq e7
          have e8 := eq_of_heq e8
          have e9 := eq_of_heq e9
          subst e2 e7 e8 e9
          have q := (ih y).2 _ _ R
          rw [List.append_assoc] at q
          exact q
    · exact (okP_no h).elim
  | 0, .hole i o l acc, hd, h => (okP_no h).elim
  | 0, .no, hd, h => (okP_no h).elim
  | n + 1, .no, hd, h => (okP_no h).elim
/-- The same hole, it may have come to something else. -/
structure HD.same (d d' : HD P) : Prop where
  i : d'.i = d.i
  c0 : d'.c0 = d.c0
  wh : d'.wh = d.wh
  lo : d'.lo = d.lo
  p : d'.p = d.p
  A : d'.A = d.A
theorem evHoles_at {fr : List SV} {K : Acc P → List (HD P) → Pr} : ∀ {n : Nat} {ar : AR P} {hd0 : List (HD P)}, okP (evHoles P ops fr K n ar hd0) → ∀ {acc : Acc P} {hd : List (HD P)}, Run ops fr n ar acc hd → ∀ {k : Nat} {d : HD P}, hd[k]? = some d →
    ∀ w0 F R β w, (∀ x ∈ d.lo, ∃ k, F k = some (β.getD x.1 0, x.2)) → Kf w0 F ((sepL d.A).sep R) w → whStep P d.wh β (fun u w' => ∃ acc' hd' d', Run ops fr n ar acc' hd' ∧ hd'[k]? = some d' ∧ HD.same d d' ∧ u = d'.v ∧ Kf w0 F ((sepL d'.A1).sep R) w') w := by
  intro n ar hd0 h acc hd R
  induction R generalizing hd0 with
  | done => intro k d e; cases e
  | @hole n i o l acc Y y0 wh lo p A A' v hsp rest rr acc' hd e y R ih =>
    unfold evHoles at h
    rw [e] at h
    dsimp only at h
    intro k d hd w0 F Rr β w hlo hk
    cases k with
    | zero =>
      rw [List.getElem?_cons_zero] at hd
      injection hd with hd
      subst hd
      refine whStep_mono (hsp w0 F Rr β w hlo hk) fun u w' ⟨y', e1, e2⟩ => ?_
      obtain ⟨acc2, hd2, R2⟩ := (evHoles_all (okP_all h y')).1
      exact ⟨acc2, _, _, .hole e y' R2, rfl, ⟨rfl, rfl, rfl, rfl, rfl, rfl⟩, e1, e2⟩
    | succ k =>
      rw [List.getElem?_cons_succ] at hd
      refine whStep_mono (ih (okP_all h y) hd w0 F Rr β w hlo hk) fun u w' ⟨acc2, hd2, d2, R2, e1, e2, e3, e4⟩ => ?_
      exact ⟨acc2, _, d2, .hole e y R2, by rw [List.getElem?_cons_succ]; exact e1, e2, e3, e4⟩
theorem evD_sound {q id : Nat} {s : St} {r : List (Ora P)} (K : St → List (Ora P) → Pr) (h : okP (evD P ops s r K)) (R : Rel w0 F β s a w) (hq : q ≤ s.m.length)
    (hQ : ∀ s' r' β' a' w', okP (K s' r') → Rel w0 F β' s' a' w' → β'.take q = β.take q → q ≤ s'.m.length → Q .normal a' w') : (Code.region id ops true).wp P Q a w := by
  unfold evD at h
  rw [ancsK_eq] at h
  have hall := evHoles_all h
  obtain ⟨acc0, hd0, R0⟩ := hall.1
  have hrun : ∀ acc hd, Run ops s.fr ops.size _ acc hd → (∀ β w, okk (drChk P ops s (ctOf P acc) (anO ops) (isHole P hd) β w)) ∧ (∀ d ∈ hd, ∀ β w, okk (hdChk P ops s (ctOf P acc) (anO ops) d β w)) ∧ okP (K (drEnd ops s (ctOf P acc)) acc.r) := fun acc hd R2 => by
    have q := hall.2 acc hd R2
    rw [List.nil_append] at q
    unfold evDK at q
    rw [spine_eq, spine_eq] at q
    dsimp only at q
    obtain ⟨hk, q⟩ := okP_and q
    rw [spine_eq] at q
    exact ⟨fun β w => (okk_app.1 (hk β w)).1, fun d hd β w => okk_flat (okk_app.1 (hk β w)).2 hd, q⟩
  let Y := { x : Acc P × List (HD P) // Run ops s.fr ops.size (accAll P ops s.fr 0 ops.toList ⟨[], [], [], [(s.m, s.A)], s.m, s.A, r, [], []⟩) x.1 x.2 }
  let ct : Y → Ct P := fun y => ctOf P y.1.1
  refine drawn_sound (Y := Y) (ct := ct) (h := fun y => isHole P y.1.2) ⟨(acc0, hd0), R0⟩ (fun y => (hrun _ _ y.2).1) (fun y i o ho hi => ?_) R Q fun y t a' w' R2 => ?_
  · unfold isHole at hi
    rw [List.any_eq_true] at hi
    obtain ⟨d, hd, hi⟩ := hi
    rw [beq_iff_eq] at hi
    subst hi
    obtain ⟨k, hk⟩ := List.getElem?_of_mem hd
    have hck : ∀ y' : Y, ∀ d', y'.1.2[k]? = some d' → ∀ β w, okk (hdChk P ops s (ct y') (anO ops) d' β w) := fun y' d' hd' => (hrun _ _ y'.2).2.1 d' (List.mem_of_getElem? hd')
    have hdep : ∀ y' : Y, (∃ d', y'.1.2[k]? = some d' ∧ HD.same d d') → okk (depChk P ops (anO ops) d.i d.c0 (ct y')) := fun y' ⟨d', e1, e2⟩ => by
      have q := (okk_app.1 (hck y' d' e1 [] default)).1
      rw [e2.i, e2.c0] at q
      exact q
    have hself : ∃ d', y.1.2[k]? = some d' ∧ HD.same d d' := ⟨d, hk, ⟨rfl, rfl, rfl, rfl, rfl, rfl⟩⟩
    have dws : ∀ y' : Y, (∃ d', y'.1.2[k]? = some d' ∧ HD.same d d') → (ct y').ws = d.c0.ws ∧ (ct y').al = d.c0.al ∧ (ct y').Ms.getD (d.c0.ws.idxOf d.i) [] = d.c0.Ms.getD (d.c0.ws.idxOf d.i) [] ∧ (ct y').As.getD (d.c0.ws.idxOf d.i) [] = d.c0.As.getD (d.c0.ws.idxOf d.i) [] := fun y' hy => by
      have q := hdep y' hy
      unfold depChk at q
      simp only [okk_cons] at q
      obtain ⟨q1, q2, q3, q4, -⟩ := q
      injection q1 with q1
      injection q2 with q2
      injection q3 with q3
      injection q4 with q4
      exact ⟨q1, q2, q3, q4⟩
    have key : ∀ y' : Y, (∃ d', y'.1.2[k]? = some d' ∧ HD.same d d') → ∀ j, j ≠ d.i → up ops (anO ops) j d.i = false → (ct y').sv j = d.c0.sv j := fun y' hy j hj hu => by
      have q := hdep y' hy
      unfold depChk at q
      simp only [okk_cons] at q
      obtain ⟨-, -, -, -, q5, q5', q6⟩ := q
      injection q5 with q5
      injection q5 with q5
      injection q5' with q5'
      injection q5' with q5'
      by_cases c : j < ops.size
      · have q7 := okk_map q6 (List.mem_range.2 c)
        rw [show (j == d.i || up ops (anO ops) j d.i) = false by rw [hu]; simpa using hj] at q7
        simpa using q7
      · unfold Ct.sv
        rw [List.getD_eq_getElem?_getD, List.getD_eq_getElem?_getD, List.getElem?_eq_none (by omega), List.getElem?_eq_none (by omega), List.getD_eq_getElem?_getD, List.getD_eq_getElem?_getD, List.getElem?_eq_none (by omega), List.getElem?_eq_none (by omega)]
    refine ⟨fun y' => ∃ d', y'.1.2[k]? = some d' ∧ HD.same d d', d.c0, hself, fun y' hy => ?_, fun y' hy => ?_, fun y' j hy => key y' hy j, fun y' hy => ?_, fun y' hy => ?_, ?_, ?_⟩
    · rw [(dws y' hy).1, (dws y hself).1]
    · rw [(dws y' hy).2.1, (dws y hself).2.1]
    · rw [(dws y hself).1, (dws y' hy).2.2.1, (dws y hself).2.2.1]
    · rw [(dws y hself).1, (dws y' hy).2.2.2, (dws y hself).2.2.2]
    · have q := (okk_app.1 (hck y d hk [] default)).2
      rw [okk_cons] at q
      have q := q.1
      injection q with q
      rw [ho] at q
      have q : (_ && _) = true := q
      rw [Bool.and_eq_true] at q
      exact q
    · refine ⟨d.wh, d.lo, d.p, d.A, fun y' => ((y'.1.2[k]?).map (·.A1)).getD [], fun y' => ((y'.1.2[k]?).map (·.v)).getD undef, fun w0 F R β w hlo hK => ?_, fun y' hy β w => ?_⟩
      · refine whStep_mono (evHoles_at h y.2 hk w0 F R β w hlo hK) fun u w' ⟨acc', hd', d', R', e1, e2, e3, e4⟩ => ⟨⟨(acc', hd'), R'⟩, ⟨d', e1, e2⟩, ?_, ?_⟩
        · show u = ((hd'[k]?).map (·.v)).getD undef
          rw [e1]; exact e3
        · show Kf w0 F ((sepL (((hd'[k]?).map (·.A1)).getD [])).sep R) w'
          rw [e1]; exact e4
      · obtain ⟨d', e1, e2⟩ := hy
        have q := (okk_app.1 (hck y' d' e1 β w)).2
        rw [okk_cons, e2.i, ho] at q
        have q := q.2
        dsimp only at q ⊢
        rw [e1]
        rw [e2.c0, e2.wh, e2.lo, e2.p, e2.A] at q
        exact q
  · refine hQ _ _ _ a' w' (hrun _ _ y.2).2.2 R2 (take_app (by rw [R.len]; exact hq)) ?_
    have := R2.len
    rw [List.length_append, R.len] at this
    exact Nat.le_trans (Nat.le_trans hq (Nat.le_add_right _ t.length)) (Nat.le_of_eq this)
end
end Go.Proofs.YtccbdmccfbjmeaaDoor.Ev
end
section
/- A verified evaluator: code whole, and calls. -/
namespace Go.Proofs.YtccbdmccfbjmeaaDoor.Ev
open Go.RowKit

section
variable {P : Program} {ops : Array Oper} {F : Fm} {β : List Nat} {w0 w : World} {a : Act} {Q : Exit → Act → World → Prop}
theorem maskF_at : ∀ {p r : List SV} {i : Nat} {sv : SV}, p.length = r.length → maskF p r = p → p[i]? = some sv → sv = .u ∨ r[i]? = some sv
  | x :: p, y :: r, i, sv, hl, h, hi => by
    have hl : p.length = r.length := by simpa using hl
    cases i with
    | zero =>
      injection hi with hi
      subst hi
      cases x with
      | u => exact .inl rfl
      | v z => right; simp only [maskF, List.cons.injEq] at h; rw [List.getElem?_cons_zero, h.1]
      | p l o => right; simp only [maskF, List.cons.injEq] at h; rw [List.getElem?_cons_zero, h.1]
      | s l o => right; simp only [maskF, List.cons.injEq] at h; rw [List.getElem?_cons_zero, h.1]
      | g l o => right; simp only [maskF, List.cons.injEq] at h; rw [List.getElem?_cons_zero, h.1]
    | succ i =>
      have h2 : maskF p r = p := by cases x <;> simp only [maskF, List.cons.injEq] at h <;> exact h.2
      have := maskF_at hl h2 (by simpa using hi)
      simpa using this
  | [], _, i, sv, _, _, hi => by cases hi
  | _ :: _, [], i, sv, hl, _, hi => by cases hl
theorem Rel.weak {q : Nat} {s s1 : St} (hk : okk (weakChk q s s1)) (R : Rel w0 F β s a w) : Rel w0 F (β.take s1.m.length) s1 a w ∧ q ≤ s1.m.length := by
  unfold weakChk at hk
  simp only [okk_cons] at hk
  obtain ⟨k2, k3, k4, k5, -⟩ := hk
  injection k2 with k2
  injection k3 with k3
  injection k4 with k4
  injection k5 with k5
  rw [Bool.and_eq_true, Bool.and_eq_true, decide_eq_true_iff, beq_iff_eq, List.all_eq_true] at k2
  obtain ⟨c2, c3, c4⟩ := k2
  have hml : s1.m.length ≤ s.m.length := by
    have := congrArg List.length k4
    rw [List.length_take] at this
    omega
  have hlb : (β.take s1.m.length).length = s1.m.length := by rw [List.length_take, R.len]; omega
  refine ⟨⟨by rw [R.sz, c3], fun i sv hi => ?_, R.df, hlb, fun sv hsv => ?_, ?_⟩, c2⟩
  · rcases maskF_at c3 k3 hi with rfl | q
    · trivial
    · have q2 := R.fr i sv q
      cases sv with
      | u => trivial
      | v x => exact q2
      | p l o =>
        have q2 : _ = (SV.p l o).den β := q2
        show _ = (SV.p l o).den (β.take s1.m.length)
        have hl : l < s1.m.length := by have := c4 _ (List.mem_of_getElem? hi); exact of_decide_eq_true this
        rw [q2]
        show Value.pointer _ = Value.pointer _
        rw [List.getD_eq_getElem?_getD, List.getD_eq_getElem?_getD, List.getElem?_take_of_lt hl]
      | s l o =>
        have q2 : _ = (SV.s l o).den β := q2
        show _ = (SV.s l o).den (β.take s1.m.length)
        have hl : l < s1.m.length := by have := c4 _ (List.mem_of_getElem? hi); exact of_decide_eq_true this
        rw [q2]
        show Value.slice _ _ _ = Value.slice _ _ _
        rw [List.getD_eq_getElem?_getD, List.getD_eq_getElem?_getD, List.getElem?_take_of_lt hl]
      | g n f =>
        have q2 : _ = (SV.g n f).den β := q2
        show _ = (SV.g n f).den (β.take s1.m.length)
        have hl : n ≤ s1.m.length := by have := c4 _ (List.mem_of_getElem? hi); exact of_decide_eq_true this
        rw [q2]
        show f _ = f _
        congr 1
        funext l
        cases c : decide (l < n) with
        | false => rfl
        | true =>
          have c := of_decide_eq_true c
          show β.getD l 0 = (β.take s1.m.length).getD l 0
          rw [List.getD_eq_getElem?_getD, List.getD_eq_getElem?_getD, List.getElem?_take_of_lt (by omega)]
  · have := c4 sv hsv
    cases sv with
    | u => trivial
    | v x => trivial
    | p l o => exact (of_decide_eq_true (p := l < s1.m.length) this)
    | s l o => exact (of_decide_eq_true (p := l < s1.m.length) this)
    | g l o => exact (of_decide_eq_true (p := l ≤ s1.m.length) this)
  · have e : s.m = s1.m ++ s.m.drop s1.m.length := by conv => lhs; rw [← List.take_append_drop s1.m.length s.m, k4]
    have hK := R.k
    rw [e, k5] at hK
    exact Kv.pre hK (by rw [R.len]; exact hml)
theorem evLp_sound {q : Nat} {c : Code} {s : St} {r : List (Ora P)} (K : Exit → St → List (Ora P) → Pr) (h : okP (evLp P q c s r K)) (R : Rel w0 F β s a w)
    (hQ : ∀ e s' r' β' a' w', okP (K e s' r') → Rel w0 F β' s' a' w' → β'.take q = β.take q → q ≤ s'.m.length → Q e a' w') : c.wp P Q a w := by
  unfold evLp at h
  split at h
  · next q' c' s1 Y e s' hT rest r1 =>
    obtain ⟨hk, hX⟩ := okP_and h
    have k := hk [] default
    simp only [okk_cons] at k
    obtain ⟨k1, k2, k3⟩ := k
    injection k1 with k1
    injection k2 with k2
    have c1 := of_decide_eq_true k2
    subst k1
    obtain ⟨R1, c2⟩ := R.weak (q := q) k3
    refine hT w0 F _ a w R1 Q fun y β' a' w' e1 R2 => ?_
    have hX := okP_all hX y
    obtain ⟨hk2, hX⟩ := okP_and hX
    have k := hk2 [] default
    simp only [okk_cons] at k
    obtain ⟨k6, -⟩ := k
    injection k6 with k6
    rw [spine_eq, memK_eq] at hX
    refine hQ e _ _ β' a' w' hX R2 ?_ (of_decide_eq_true k6)
    have e2 := take_le e1 c1
    rw [e2, List.take_take, Nat.min_eq_left c2]
  · exact (okP_no h).elim
theorem Rel.condF {s : St} {c : Operand} {v : Bool} (R : Rel w0 F β s a w) (hc : a.eval c = .bool v) : Rel w0 F β ⟨Ev.condF s.fr c v, s.m, s.A⟩ a w := by
  cases c with
  | tmp t0 =>
    refine ⟨by rw [R.sz]; show _ = (s.fr.set t0 _).length; simp, fun i sv hi => ?_, R.df, R.len, fun sv hsv => ?_, R.k⟩
    · have hi : (s.fr.set t0 (.v (.bool v)))[i]? = some sv := hi
      by_cases c0 : t0 = i
      · subst c0
        have hlt : t0 < s.fr.length := by have := (List.getElem?_eq_some_iff.1 hi).1; simpa using this
        rw [List.getElem?_set_self hlt] at hi
        injection hi with hi
        subst hi
        exact hc
      · rw [List.getElem?_set_ne c0] at hi
        exact R.fr i sv hi
    · rcases List.mem_or_eq_of_mem_set hsv with q | q
      · exact R.wf sv q
      · rw [q]; trivial
  | _ => exact R
theorem ev_sound {q : Nat} : ∀ (c : Code) (s : St) (r : List (Ora P)) (K : Exit → St → List (Ora P) → Pr) (β : List Nat) (a : Act) (w : World) (Q : Exit → Act → World → Prop), okP (ev P q c s r K) → Rel w0 F β s a w → q ≤ s.m.length →
    (∀ e s' r' β' a' w', okP (K e s' r') → Rel w0 F β' s' a' w' → β'.take q = β.take q → q ≤ s'.m.length → Q e a' w') → c.wp P Q a w := by
  intro c
  induction c with
  | skip => intro s r K β a w Q h R hq hQ; exact wp_skip (hQ _ _ _ β a w h R rfl hq)
  | label l => intro s r K β a w Q h R hq hQ; exact wp_label (hQ _ _ _ β a w h R rfl hq)
  | exit id => intro s r K β a w Q h R hq hQ; exact wp_exit (hQ _ _ _ β a w h R rfl hq)
  | ret => intro s r K β a w Q h R hq hQ; exact wp_ret (hQ _ _ _ β a w h R rfl hq)
  | region id ops d =>
    intro s r K β a w Q h R hq hQ
    unfold ev at h
    obtain ⟨s, r, h, R, em⟩ := evA_sound h R
    rw [← em] at hq
    cases d with
    | true => exact evD_sound (K .normal) h R hq fun s' r' β' a' w' => hQ _ s' r' β' a' w'
    | false =>
      have e2 := wp_region_lit (id := id) (evL_sound (w0 := w0) (F := F) (Q := Q) (K .normal) ops.toList 0 s _ β a w h R hq fun s' r' β' a' w' => hQ _ s' r' β' a' w')
      simpa using e2
  | seq x y ihx ihy =>
    intro s r K β a w Q h R hq hQ
    unfold ev at h
    split at h
    · exact evLp_sound K h R hQ
    · refine wp_seq (ihx s r _ β a w _ h R hq fun e s' r' β' a' w' k1 k2 k3 k4 => ?_)
      cases e with
      | normal => exact ihy s' r' K β' a' w' Q k1 k2 k4 fun e2 s2 r2 β2 a2 w2 j1 j2 j3 j4 => hQ e2 s2 r2 β2 a2 w2 j1 j2 (j3.trans k3) j4
      | _ => exact hQ _ s' r' β' a' w' k1 k2 k3 k4
  | cond c x y ihx ihy =>
    intro s r K β a w Q h R hq hQ
    unfold ev at h
    obtain ⟨s, r, h, R, em⟩ := evA_sound h R
    rw [← em] at hq
    split at h
    · next t v htv r1 =>
      obtain ⟨hk, h⟩ := okP_and h
      have k := hk β w
      simp only [okk_cons] at k
      obtain ⟨k1, k2, -⟩ := k
      injection k1 with k1
      injection k2 with k2
      have hc : a.eval c = .bool v := by rw [R.eval c k2, k1, htv]
      refine wp_cond hc ?_
      rw [spine_eq] at h
      have R2 := R.condF hc
      cases v with
      | true => exact ihx _ r1 K β a w Q h R2 hq hQ
      | false => exact ihy _ r1 K β a w Q h R2 hq hQ
    · exact evLp_sound K h R hQ
  | block id x ih =>
    intro s r K β a w Q h R hq hQ
    unfold ev at h
    refine wp_block (ih s r _ β a w _ h R hq fun e s' r' β' a' w' k1 k2 k3 k4 => ?_)
    cases e with
    | exit id1 =>
      unfold Exit.inBlock
      dsimp only at k1 ⊢
      split
      · next c => rw [if_pos c] at k1; exact hQ _ s' r' β' a' w' k1 k2 k3 k4
      · next c => rw [if_neg c] at k1; exact hQ _ s' r' β' a' w' k1 k2 k3 k4
    | _ => exact hQ _ s' r' β' a' w' k1 k2 k3 k4
  | loop x ih =>
    intro s r K β a w Q h R hq hQ
    unfold ev at h
    obtain ⟨s, r, h, R, em⟩ := evA_sound h R
    exact evLp_sound K h R hQ
  | rangeFunc f ps ags x iha ihx =>
    intro s r K β a w Q h R hq hQ
    unfold ev at h
    obtain ⟨s, r, h, R, em⟩ := evA_sound h R
    exact evLp_sound K h R hQ
  | _ =>
    intro s r K β a w Q h R hq hQ
    exact (okP_no h).elim
end
end Go.Proofs.YtccbdmccfbjmeaaDoor.Ev
end
