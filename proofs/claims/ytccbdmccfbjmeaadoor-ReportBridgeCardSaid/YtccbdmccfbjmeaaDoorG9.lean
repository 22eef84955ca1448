import Derived.Test.YtccbdmccfbjmeaaDoorG8
import Derived.Maps.AppendAt
import Derived.Laws.OwnMore
import Derived.Deep.AppendLies
import Derived.OwnWalk
import Derived.Deep.MidRow
import Derived.Below
import Derived.WalkKit
import Derived.Lib.Hide
import Derived.Test.YtccbdmccfbjmeaaDoorG1
set_option linter.unusedSimpArgs false
set_option linter.unusedVariables false
section
/- A verified evaluator: functions, and loops. -/
namespace Go.Proofs.YtccbdmccfbjmeaaDoor.Ev
open Go.RowKit

section
variable {P : Program} {ops : Array Oper} {F : Fm} {β : List Nat} {w0 w : World} {a : Act} {Q : Exit → Act → World → Prop}
/-! What a function answers. -/
def resM (tmps : Array Value) : ResultVar → Sem Value
  | .tmp t => pure (tmps.getD t undef)
  | .cell a t => do loadVar t (← asAddr (tmps.getD a undef))
theorem results_is {fn : Func} {tmps : Array Value} : results fn tmps = (do let vs ← fn.results.mapM (resM tmps); pure (if h : vs.size = 1 then vs[0] else .tuple vs)) := by
  unfold results
  congr
theorem results_of0 {fn : Func} {tmps : Array Value} (h : fn.results = #[]) : (results fn tmps).run P w = .ok (.tuple #[]) w := by
  rw [results_is, h]; simp
theorem results_of1 {fn : Func} {tmps : Array Value} {x : ResultVar} {u : Value} (h : fn.results = #[x]) (hx : (resM tmps x).run P w = .ok u w) : (results fn tmps).run P w = .ok u w := by
  rw [results_is, h]; simp [hx]
theorem results_of2 {fn : Func} {tmps : Array Value} {x y : ResultVar} {u v : Value} (h : fn.results = #[x, y]) (hx : (resM tmps x).run P w = .ok u w) (hy : (resM tmps y).run P w = .ok v w) : (results fn tmps).run P w = .ok (.tuple #[u, v]) w := by
  rw [results_is, h]; simp [hx, hy]
theorem results_of3 {fn : Func} {tmps : Array Value} {x y z : ResultVar} {u v p : Value} (h : fn.results = #[x, y, z]) (hx : (resM tmps x).run P w = .ok u w) (hy : (resM tmps y).run P w = .ok v w) (hz : (resM tmps z).run P w = .ok p w) : (results fn tmps).run P w = .ok (.tuple #[u, v, p]) w := by
  rw [results_is, h]; simp [hx, hy, hz]
/-- A result, as it is told. -/
def resV (P : Program) (s : St) : ResultVar → Option (Value × List (Tk × Tk))
  | .tmp t => match s.fr.getD t (.v undef) with
    | .v x => some (x, [])
    | _ => none
  | .cell t ty => match s.fr.getD t (.v undef) with
    | .p l off => match s.m[l]? with
      | some (cs, _) =>
        bif rowT P ty then some (.agg (part cs off (sizeT P ty)), [(.n ((P.info? ty).map (·.size)), .n (some (sizeT P ty))), (.b (decide (off + sizeT P ty ≤ cs.size)), .b true)])
        else some (cs.getD off undef, [(.b (plainT (P.underlying ty)), .b true), (.o cs[off]?, .o (some (cs.getD off undef)))])
      | none => none
    | _ => none
theorem resV_sound {s : St} (R : Rel w0 F β s a w) {x : ResultVar} {u : Value} {k : List (Tk × Tk)} (h : resV P s x = some (u, k)) (hk : okk k) : (resM a.tmps x).run P w = .ok u w := by
  have key : ∀ t, (s.fr.getD t (.v undef)).known = true → a.tmps.getD t undef = (s.fr.getD t (.v undef)).den β := fun t => R.eval (.tmp t)
  unfold resV at h
  unfold resM
  split at h
  · next t =>
    split at h
    · next v hv =>
      injection h with h
      obtain ⟨rfl, rfl⟩ := h
      rw [key t (by rw [hv]; rfl), hv]
      rfl
    · cases h
  · next t ty =>
    split at h
    · next l off hv =>
      split at h
      · next cs t0 e =>
        have hb := R.k.at e
        have ka : ((asAddr (a.tmps.getD t undef)).run P w) = .ok ⟨β.getD l 0, off, none⟩ w := by rw [key t (by rw [hv]; rfl), hv]; rfl
        cases c : rowT P ty with
        | true =>
          rw [c] at h
          injection h with h
          obtain ⟨rfl, rfl⟩ := h
          simp only [okk_cons] at hk
          obtain ⟨q1, q2, -⟩ := hk
          injection q1 with q1
          injection q2 with q2
          have q2 := of_decide_eq_true q2
          have hp : (part cs off (sizeT P ty)).toList = (cs.toList.drop off).take (sizeT P ty) := by
            unfold part
            cases c2 : off == 0 && sizeT P ty == cs.size with
            | true =>
              rw [Bool.and_eq_true, beq_iff_eq, beq_iff_eq] at c2
              rw [c2.1, c2.2]
              show cs.toList = _
              rw [List.drop_zero, List.take_of_length_le (by simp)]
            | false => simp [Array.toList_extract, List.extract_eq_take_drop]
          have hlen : (part cs off (sizeT P ty)).toList.length = sizeT P ty := by rw [hp, List.length_take, List.length_drop]; simp; omega
          have hr : w.rangeAt (β.getD l 0) off (part cs off (sizeT P ty)).toList := fun i v hv => by
            have hi := (List.getElem?_eq_some_iff.1 hv).1
            rw [hp, List.getElem?_take_of_lt (by omega), List.getElem?_drop] at hv
            rw [hb.cell]
            simpa using hv
          unfold rowT at c
          split at c
          · next d hd =>
            have e2 := run_loadVar_mid w (β.getD l 0) off ty _ d hr hd c (by rw [hlen]; exact q1)
            simp only [Sem.run_bind, ka, Result.andThen_ok, e2, Array.toArray_toList]
          · cases c
        | false =>
          rw [c] at h
          injection h with h
          obtain ⟨rfl, rfl⟩ := h
          simp only [okk_cons] at hk
          obtain ⟨q1, q2, -⟩ := hk
          injection q1 with q1
          injection q2 with q2
          have e2 := run_loadAt_cell (P := P) (ty := ty) (w := w) (p := ⟨β.getD l 0, off, none⟩) q1 (by rw [hb.cell]; exact q2)
          unfold Instr.loadAt Instr.sureAddr at e2
          simp only [Sem.run_bind, Sem.run_pure, Result.andThen_ok] at e2
          simp only [Sem.run_bind, ka, Result.andThen_ok, e2]
      · cases h
    · cases h
def resAll (P : Program) (s : St) : List ResultVar → Option (Value × List (Tk × Tk))
  | [] => some (.tuple #[], [])
  | [x] => resV P s x
  | [x, y] => match resV P s x, resV P s y with
    | some (u, k), some (v, k2) => some (.tuple #[u, v], k ++ k2)
    | _, _ => none
  | [x, y, z] => match resV P s x, resV P s y, resV P s z with
    | some (u, k), some (v, k2), some (p, k3) => some (.tuple #[u, v, p], k ++ (k2 ++ k3))
    | _, _, _ => none
  | _ => none
theorem resAll_sound {s : St} (R : Rel w0 F β s a w) {fn : Func} {u : Value} {k : List (Tk × Tk)} (h : resAll P s fn.results.toList = some (u, k)) (hk : okk k) : (results fn a.tmps).run P w = .ok u w := by
  obtain ⟨rs, hrs⟩ : ∃ rs, rs = fn.results.toList := ⟨_, rfl⟩
  have er : fn.results = rs.toArray := by rw [hrs]
  rw [← hrs] at h
  match rs, h, er with
  | [], h, er =>
    injection h with h
    obtain ⟨rfl, rfl⟩ := h
    exact results_of0 er
  | [x], h, er => exact results_of1 er (resV_sound R h hk)
  | [x, y], h, er =>
    simp only [resAll] at h
    cases h1 : resV P s x with
    | none => rw [h1] at h; cases h
    | some p1 =>
      cases h2 : resV P s y with
      | none => rw [h1, h2] at h; cases h
      | some p2 =>
        rw [h1, h2] at h
        injection h with h
        obtain ⟨rfl, rfl⟩ := h
        rw [okk_app] at hk
        exact results_of2 er (resV_sound R h1 hk.1) (resV_sound R h2 hk.2)
  | [x, y, z], h, er =>
    simp only [resAll] at h
    cases h1 : resV P s x with
    | none => rw [h1] at h; cases h
    | some p1 =>
      cases h2 : resV P s y with
      | none => rw [h1, h2] at h; cases h
      | some p2 =>
        cases h3 : resV P s z with
        | none => rw [h1, h2, h3] at h; cases h
        | some p3 =>
          rw [h1, h2, h3] at h
          injection h with h
          obtain ⟨rfl, rfl⟩ := h
          rw [okk_app, okk_app] at hk
          exact results_of3 er (resV_sound R h1 hk.1) (resV_sound R h2 hk.2.1) (resV_sound R h3 hk.2.2)
  | _ :: _ :: _ :: _ :: _, h, er => cases h
def isOut : Exit → Bool
  | .normal | .ret => true
  | _ => false
/-- A function ends: what it answers, and what is then, is asked. -/
def finK (P : Program) (q : Nat) (rs : List ResultVar) (G : Goal) : Exit → St → List (Ora P) → Pr := fun e s r =>
  match r with
  | .fin G' u m A _ :: _ => match resAll P s rs with
    | some (u', k) => Pr.and (fun _ _ => (.b (isOut e && decide (q ≤ m.length)), .b true) :: (.g G', .g G) :: (.v u', .v u) :: (.m (s.m.take m.length), .m m) :: (.d s.A, .d A) :: k) (fun _ _ => ([], []))
    | none => Pr.no
  | _ => Pr.no
/-- A function of values: its answer is told at first. -/
def finV (P : Program) (rs : List ResultVar) (v : Value) : Exit → St → List (Ora P) → Pr := fun e s _ =>
  match resAll P s rs with
  | some (u', k) => Pr.and (fun _ _ => (.b (isOut e), .b true) :: (.v u', .v v) :: k) (fun _ _ => ([], []))
  | none => Pr.no
def evFn (P : Program) (q : Nat) (f : FuncId) (args : List SV) (m : Mem) (A : Bds) (r : List (Ora P)) (K : List ResultVar → Exit → St → List (Ora P) → Pr) : Pr :=
  match P.funcs[f]? with
  | some fn => match fn.body with
    | some c => Pr.and (fun _ _ => [(.b (args.all (ltB m.length) && args.all SV.known), .b true)]) (ev P q c ⟨args ++ List.replicate (fn.ntmps - args.length) (.v undef), m, A⟩ r (fun e s r => evA P 9 s r (fun s r => K fn.results.toList e s r)))
    | none => Pr.no
  | none => Pr.no
theorem evFn_sound {q : Nat} {f : FuncId} {args : List SV} {m : Mem} {A : Bds} {r : List (Ora P)} {K : List ResultVar → Exit → St → List (Ora P) → Pr} {R' : Ending → World → Prop} (h : okP (evFn P q f args m A r K)) (hq : q ≤ m.length) (hl : β.length = m.length) (k : Kv w0 F β m A w)
    (hQ : ∀ (fn : Func) e s' r' β' (a' : Act) w', okP (K fn.results.toList e s' r') → Rel w0 F β' s' a' w' → β'.take q = β.take q → q ≤ s'.m.length → bodyPost P fn R' e a' w') : Calls P f (args.map (SV.den β)).toArray w R' := by
  unfold evFn at h
  split at h
  · next fn hf =>
    split at h
    · next c hb =>
      obtain ⟨hk, h⟩ := okP_and h
      have k0 := hk [] default
      simp only [okk_cons] at k0
      obtain ⟨k0, -⟩ := k0
      injection k0 with k0
      rw [Bool.and_eq_true, List.all_eq_true, List.all_eq_true] at k0
      refine calls_of_wp hf hb ?_
      refine ev_sound c _ r _ β _ w _ h ⟨?_, fun i sv hi => ?_, rfl, hl, fun sv hsv => ?_, k⟩ hq fun e s' r' β' a' w' k1 k2 k3 k4 => (evA_sound k1 k2).elim fun s2 q => q.elim fun r2 q => hQ fn e s2 r2 β' a' w' q.1 q.2.1 k3 (by rw [q.2.2]; exact k4)
      · simp
      · show sv.ok β (((args.map (SV.den β)).toArray ++ Array.replicate _ undef).getD i undef)
        have hi : (args ++ List.replicate (fn.ntmps - args.length) (SV.v undef))[i]? = some sv := hi
        rw [Array.getD_eq_getD_getElem?, Array.getElem?_append]
        by_cases c : i < args.length
        · rw [List.getElem?_append_left c] at hi
          rw [if_pos (by simpa using c), List.getElem?_toArray, List.getElem?_map, hi]
          exact SV.den_ok
        · rw [List.getElem?_append_right (by omega)] at hi
          rw [if_neg (by simpa using c)]
          have hi2 := List.getElem?_eq_some_iff.1 hi
          obtain ⟨h1, h2⟩ := hi2
          rw [List.getElem_replicate] at h2
          subst h2
          show _ = undef
          rw [Array.getElem?_replicate]
          split <;> rfl
      · rcases List.mem_append.1 hsv with q | q
        · have := k0.1 sv q
          cases sv with
          | u => trivial
          | v x => trivial
          | p l o => exact (of_decide_eq_true (p := l < m.length) this)
          | s l o => exact (of_decide_eq_true (p := l < m.length) this)
          | g l o => exact (of_decide_eq_true (p := l ≤ m.length) this)
        · rw [(List.mem_replicate.1 q).2]; trivial
    · exact (okP_no h).elim
  · exact (okP_no h).elim
theorem isOut_post {fn : Func} {R' : Ending → World → Prop} {e : Exit} (h : isOut e = true) {v : Value} (hd : a.defers = []) (hr : (results fn a.tmps).run P w = .ok v w) (hR : R' (.returned v) w) : bodyPost P fn R' e a w := by
  cases e with
  | normal => exact ⟨hd, v, hr, hR⟩
  | ret => exact ⟨hd, v, hr, hR⟩
  | _ => cases h
/-- A function, whatever comes of it. -/
theorem ev_fn {q : Nat} {f : FuncId} (args : List SV) (m : Mem) (A : Bds) (G : Goal) (r : List (Ora P)) (h : ∀ β w, (evFn P q f args m A r (fun rs => finK P q rs G) β w).1 = (evFn P q f args m A r (fun rs => finK P q rs G) β w).2) (hq : q ≤ m.length)
    (w0 : World) (F : Fm) (β : List Nat) (w : World) (hl : β.length = m.length) (k : Kv w0 F β m A w) :
    Calls P f (args.map (SV.den β)).toArray w fun e w' => ∃ u m' A' β', e = .returned u ∧ G u m' A' ∧ β'.take q = β.take q ∧ β'.length = m'.length ∧ Kv w0 F β' m' A' w' := by
  refine evFn_sound (w0 := w0) (F := F) h hq hl k fun fn e s' r' β' a' w' k1 R k3 k4 => ?_
  unfold finK at k1
  split at k1
  · next G' u m2 A2 hG r2 =>
    split at k1
    · next u' k5 hres =>
      obtain ⟨hk, -⟩ := okP_and k1
      have j := hk [] default
      simp only [okk_cons] at j
      obtain ⟨j1, j2, j3, j4, j5, j6⟩ := j
      injection j1 with j1
      injection j2 with j2
      injection j3 with j3
      injection j4 with j4
      injection j5 with j5
      rw [Bool.and_eq_true, decide_eq_true_iff] at j1
      obtain ⟨j1, c⟩ := j1
      subst j2
      subst j3
      have hr := resAll_sound R hres j6
      have hml : m2.length ≤ s'.m.length := by
        have := congrArg List.length j4
        rw [List.length_take] at this
        omega
      have em : s'.m = m2 ++ s'.m.drop m2.length := by conv => lhs; rw [← List.take_append_drop m2.length s'.m, j4]
      have kk := R.k
      rw [em, j5] at kk
      have kk := Kv.pre kk (by rw [R.len]; exact hml)
      exact isOut_post j1 R.df hr ⟨u', m2, A2, β'.take m2.length, rfl, hG, by rw [List.take_take, Nat.min_eq_left c, k3], by rw [List.length_take, R.len]; omega, kk⟩
    · exact (okP_no k1).elim
  · exact (okP_no k1).elim
theorem Kf.none (w : World) : Kf w (fun _ => none) Bd.nil w :=
  ⟨fun _ _ h => (by cases h), Below.refl _ _, fun _ _ h => (by cases h), fun _ _ _ _ h => (by cases h), trivial, fun _ _ h => (by cases h), fun _ (h : False) => h.elim, Nat.zero_le _⟩
/-- A call of values alone. -/
theorem ev_call {f : FuncId} {args : Array Value} {v : Value} (r : List (Ora P)) (h : ∀ β w, (evFn P 0 f (args.toList.map SV.v) [] [] r (fun rs => finV P rs v) β w).1 = (evFn P 0 f (args.toList.map SV.v) [] [] r (fun rs => finV P rs v) β w).2) (w : World) :
    Calls P f args w fun e w' => e = .returned v ∧ Below w.heap.size w w' := by
  have ea : ((args.toList.map SV.v).map (SV.den [])).toArray = args := by
    rw [List.map_map]
    have : (SV.den ([] : List Nat)) ∘ SV.v = id := by funext x; rfl
    rw [this, List.map_id]
  rw [← ea]
  refine evFn_sound (w0 := w) (F := fun _ => Option.none) (β := []) h (Nat.zero_le _) rfl (Kv.start (Kf.none w)) fun fn e s' r' β' a' w' k1 R k3 k4 => ?_
  unfold finV at k1
  split at k1
  · next u' k5 hres =>
    obtain ⟨hk, -⟩ := okP_and k1
    have j := hk [] default
    simp only [okk_cons] at j
    obtain ⟨j1, j2, j3⟩ := j
    injection j1 with j1
    injection j2 with j2
    subst j2
    exact isOut_post j1 R.df (resAll_sound R hres j3) ⟨rfl, Kf.below R.k⟩
  · exact (okP_no k1).elim
/-! Loops. -/
/-- Code that leads from s to what is asked. -/
def TP (P : Program) (q : Nat) (c : Code) (s : St) (G : Exit → St → Prop) : Prop :=
  ∀ w0 F β a w, Rel w0 F β s a w → ∀ Q : Exit → Act → World → Prop, (∀ e s' β' a' w', G e s' → β'.take q = β.take q → Rel w0 F β' s' a' w' → Q e a' w') → c.wp P Q a w
def fisK (q : Nat) (G : Exit → St → Prop) : Exit → St → List (Ora P) → Pr := fun e s r => evA P 9 s r fun s r =>
  match r with
  | .fis G' e' s1 _ :: _ => Pr.and (fun _ _ => (.gs (fun e fr m A => G' e ⟨fr, m, A⟩), .gs (fun e fr m A => G e ⟨fr, m, A⟩)) :: (.ex e, .ex e') :: weakChk q s s1) (fun _ _ => ([], []))
  | _ => Pr.no
theorem TP_of {q : Nat} {c : Code} {s : St} {G : Exit → St → Prop} (r : List (Ora P)) (h : ∀ β w, (ev P q c s r (fisK q G) β w).1 = (ev P q c s r (fisK q G) β w).2) (hq : q ≤ s.m.length) : TP P q c s G := by
  intro w0 F β a w R Q hQ
  refine ev_sound c s r _ β a w Q h R hq fun e s' r' β' a' w' k1 R' k3 k4 => ?_
  unfold fisK at k1
  obtain ⟨s', r', k1, R', em⟩ := evA_sound k1 R'
  split at k1
  · next G' e' s1 hG r2 =>
    obtain ⟨hk, -⟩ := okP_and k1
    have j := hk [] default
    simp only [okk_cons] at j
    obtain ⟨j1, j2, j3⟩ := j
    injection j1 with j1
    injection j2 with j2
    subst j2
    obtain ⟨R1, c2⟩ := R'.weak (q := q) j3
    have hG2 : G e s1 := by
      have := congrFun (congrFun (congrFun (congrFun j1 e) s1.fr) s1.m) s1.A
      have e2 : G' e s1 = G e s1 := this
      rw [← e2]
      exact hG
    exact hQ e s1 _ a' w' hG2 (by rw [List.take_take, Nat.min_eq_left c2, k3]) R1
  · exact (okP_no k1).elim
theorem least {p : Nat → Prop} (h : ∃ n, p n) : ∃ n, p n ∧ ∀ m, p m → n ≤ m := by
  obtain ⟨n, hn⟩ := h
  induction n using Nat.strongRecOn with
  | _ n ih =>
    by_cases c : ∃ m, m < n ∧ p m
    · obtain ⟨m, h1, h2⟩ := c
      exact ih m h1 h2
    · exact ⟨n, hn, fun m hm => Nat.le_of_not_lt fun h => c ⟨m, h, hm⟩⟩
/-- A round of a loop: it comes to a lesser state, or ends. -/
def lpG {I : Type} (S : I → St) (μ : I → Nat) {Y : Type} (E : Exit) (S' : Y → St) (i : I) : Exit → St → Prop := fun e s => (e = .normal ∧ ∃ j, μ j < μ i ∧ s = S j) ∨ (e = E ∧ ∃ y, s = S' y)
def goO {I : Type} (S : I → St) (μ : I → Nat) {Y : Type} (E : Exit) (S' : Y → St) (i j : I) (h : μ j < μ i) : Ora P := .fis (lpG S μ E S' i) .normal (S j) (.inl ⟨rfl, j, h, rfl⟩)
def outO {I : Type} (S : I → St) (μ : I → Nat) {Y : Type} (E : Exit) (S' : Y → St) (i : I) (y : Y) : Ora P := .fis (lpG S μ E S' i) E (S' y) (.inr ⟨rfl, y, rfl⟩)
def LP (P : Program) (q : Nat) (body : Code) {I : Type} (S : I → St) (μ : I → Nat) {Y : Type} (E : Exit) (S' : Y → St) (i : I) : Prop := TP P q body (S i) (lpG S μ E S' i)
theorem LP_use {q : Nat} {body : Code} {I : Type} {S : I → St} {μ : I → Nat} {Y : Type} {E : Exit} {S' : Y → St} {i : I} {φ : Prop} (h1 : ∀ w, (sepL (S i).A).p w → φ) (h2 : φ → LP P q body S μ E S' i) : LP P q body S μ E S' i :=
  fun w0 F β a w R => h2 (h1 w (Kf.a R.k)) w0 F β a w R
theorem step_of {q : Nat} {body : Code} {I : Type} {S : I → St} {μ : I → Nat} {Y : Type} {E : Exit} {S' : Y → St} {i : I} (r : ((j : I) → μ j < μ i → Ora P) → (Y → Ora P) → List (Ora P))
    (h : ∀ β w, (ev P q body (S i) (r (goO S μ E S' i) (outO S μ E S' i)) (fisK q (lpG S μ E S' i)) β w).1 = (ev P q body (S i) (r (goO S μ E S' i) (outO S μ E S' i)) (fisK q (lpG S μ E S' i)) β w).2) (hq : q ≤ (S i).m.length := by exact Nat.le_refl _) : LP P q body S μ E S' i := TP_of _ h hq
def goE {I : Type} (S : I → St) (μ : I → Nat) {Y : Type} (E : Exit) (S' : Y → St) (i j : I) (h : μ j < μ i) (s1 : St) (e : s1 = S j) : Ora P := .fis (lpG S μ E S' i) .normal s1 (.inl ⟨rfl, j, h, e⟩)
def outE {I : Type} (S : I → St) (μ : I → Nat) {Y : Type} (E : Exit) (S' : Y → St) (i : I) (y : Y) (s1 : St) (e : s1 = S' y) : Ora P := .fis (lpG S μ E S' i) E s1 (.inr ⟨rfl, y, e⟩)
/-- So, where the state is written another way. -/
theorem step_at {q : Nat} {body : Code} {I : Type} {S : I → St} {μ : I → Nat} {Y : Type} {E : Exit} {S' : Y → St} {i : I} (s : St) (hs : S i = s) (r : ((j : I) → μ j < μ i → (s1 : St) → s1 = S j → Ora P) → ((y : Y) → (s1 : St) → s1 = S' y → Ora P) → List (Ora P))
    (h : ∀ β w, (ev P q body s (r (goE S μ E S' i) (outE S μ E S' i)) (fisK q (lpG S μ E S' i)) β w).1 = (ev P q body s (r (goE S μ E S' i) (outE S μ E S' i)) (fisK q (lpG S μ E S' i)) β w).2) (hq : q ≤ s.m.length := by exact Nat.zero_le _) : LP P q body S μ E S' i := by
  unfold LP
  rw [hs]
  exact TP_of _ h hq
/-- A loop: from each of its states it comes to a lesser one, or ends. -/
theorem T_loop {q : Nat} {body : Code} {I : Type} (S : I → St) (μ : I → Nat) {Y : Type} {E : Exit} (hE : E ≠ .normal) (S' : Y → St) (h : ∀ i, LP P q body S μ E S' i) (i0 : I) : TY P q (.loop body) (S i0) Y E S' := by
  intro w0 F β0 a w R Q hQ
  have key : ∀ (a : Act) (w : World), ∃ n, (∃ i β, β.take q = β0.take q ∧ Rel w0 F β (S i) a w) → (∃ i β, μ i = n ∧ β.take q = β0.take q ∧ Rel w0 F β (S i) a w) ∧ ∀ i β, β.take q = β0.take q → Rel w0 F β (S i) a w → n ≤ μ i := fun a w => by
    by_cases c : ∃ i β, β.take q = β0.take q ∧ Rel w0 F β (S i) a w
    · obtain ⟨n, h1, h2⟩ := least (p := fun n => ∃ i β, μ i = n ∧ β.take q = β0.take q ∧ Rel w0 F β (S i) a w) (by obtain ⟨i, β, h1, h2⟩ := c; exact ⟨μ i, i, β, rfl, h1, h2⟩)
      exact ⟨n, fun _ => ⟨h1, fun i β h3 h4 => h2 _ ⟨i, β, rfl, h3, h4⟩⟩⟩
    · exact ⟨0, fun h => (c h).elim⟩
  refine wp_loop (fun a w => ∃ i β, β.take q = β0.take q ∧ Rel w0 F β (S i) a w) (fun a w => Classical.choose (key a w)) ⟨i0, β0, rfl, R⟩ fun a w hI => ?_
  obtain ⟨⟨i, β, h1, h2, h3⟩, h4⟩ := Classical.choose_spec (key a w) hI
  refine h i w0 F β a w h3 _ fun e s' β' a' w' hG ht R' => ?_
  rcases hG with ⟨rfl, j, hj, rfl⟩ | ⟨rfl, y, rfl⟩
  · refine ⟨⟨j, β', ht.trans h2, R'⟩, ?_⟩
    have h5 := (Classical.choose_spec (key a' w') ⟨j, β', ht.trans h2, R'⟩).2 j β' (ht.trans h2) R'
    omega
  · have := hQ y β' a' w' (ht.trans h2) R'
    cases e with
    | normal => exact (hE rfl).elim
    | _ => exact this
/-- Code that ends in one way. -/
def tyG {Y : Type} (E : Exit) (S' : Y → St) : Exit → St → Prop := fun e s => e = E ∧ ∃ y, s = S' y
def outT {Y : Type} (E : Exit) (S' : Y → St) (y : Y) (s1 : St) (e : s1 = S' y) : Ora P := .fis (tyG E S') E s1 ⟨rfl, y, e⟩
theorem TY_of {q : Nat} {c : Code} {s : St} {Y : Type} {E : Exit} {S' : Y → St} (r : ((y : Y) → (s1 : St) → s1 = S' y → Ora P) → List (Ora P)) (h : ∀ β w, (ev P q c s (r (outT E S')) (fisK q (tyG E S')) β w).1 = (ev P q c s (r (outT E S')) (fisK q (tyG E S')) β w).2) (hq : q ≤ s.m.length := by exact Nat.le_of_ble_eq_true rfl) : TY P q c s Y E S' := by
  intro w0 F β a w R Q hQ
  refine TP_of _ h hq w0 F β a w R Q fun e s1 β' a' w' hG e1 R1 => ?_
  obtain ⟨rfl, y, rfl⟩ := hG
  exact hQ y β' a' w' e1 R1
/-- A part of a function's code: 0 and 1 lead to the parts of a pair, of a test; 0 to the inside of a block or a loop. -/
def codeAt : Code → List Nat → Code
  | c, [] => c
  | .seq x y, n :: l => bif n == 0 then codeAt x l else codeAt y l
  | .cond _ x y, n :: l => bif n == 0 then codeAt x l else codeAt y l
  | .block _ x, _ :: l => codeAt x l
  | .loop x, _ :: l => codeAt x l
  | c, _ => c
def partN (P : Program) (f : Nat) (l : List Nat) : Code := codeAt (((P.funcs[f]?).bind (·.body)).getD .skip) l
/-- A sparse frame: what is told of it. -/
def sp (n : Nat) (l : List (Nat × SV)) : List SV := l.foldl (fun fr x => fr.set x.1 x.2) (List.replicate n .u)
/-- The loops of a function, in their order. -/
def loops : Code → List Code
  | .seq x y => loops x ++ loops y
  | .cond _ x y => loops x ++ loops y
  | .block _ x => loops x
  | .loop x => x :: loops x
  | .scope x => loops x
  | .rangeFunc _ _ _ x => loops x
  | _ => []
def loopN (P : Program) (f n : Nat) : Code := (loops (((P.funcs[f]?).bind (·.body)).getD .skip)).getD n .skip
end
end Go.Proofs.YtccbdmccfbjmeaaDoor.Ev
end
namespace Go.Proofs.YtccbdmccfbjmeaaDoor
section
/- Slices of structs as lists; with no program in sight. -/
open Go.RowKit

section
variable {α : Type} {enc : α → List Value} {size : Nat}

/-- The elements' cells, one behind the other. -/
def cellsL (enc : α → List Value) (l : List α) : List Value := l.flatMap enc

theorem cellsL_nil : cellsL enc [] = [] := rfl
theorem cellsL_cons (x : α) (l : List α) : cellsL enc (x :: l) = enc x ++ cellsL enc l := List.flatMap_cons
theorem cellsL_app (a b : List α) : cellsL enc (a ++ b) = cellsL enc a ++ cellsL enc b := List.flatMap_append
theorem cellsL_one (x : α) : cellsL enc [x] = enc x := by simp [cellsL]
theorem cellsL_len (h : ∀ x, (enc x).length = size) (l : List α) : (cellsL enc l).length = l.length * size := by
  induction l with
  | nil => simp [cellsL]
  | cons x l ih => rw [cellsL_cons, List.length_append, h, ih, List.length_cons, Nat.succ_mul, Nat.add_comm]
theorem cellsL_at (h : ∀ x, (enc x).length = size) (l : List α) (i j : Nat) (x : α) (hx : l[i]? = some x) (hj : j < size) : (cellsL enc l)[i * size + j]? = (enc x)[j]? := by
  induction l generalizing i with
  | nil => simp at hx
  | cons y l ih =>
    rw [cellsL_cons]
    cases i with
    | zero =>
      simp only [List.getElem?_cons_zero, Option.some.injEq] at hx
      subst hx
      rw [Nat.zero_mul, Nat.zero_add, List.getElem?_append_left (by rw [h]; exact hj)]
    | succ i =>
      have e : (i + 1) * size + j = size + (i * size + j) := by rw [Nat.succ_mul]; omega
      rw [List.getElem?_append_right (by rw [h, e]; omega), h, e, Nat.add_sub_cancel_left]
      exact ih i (by simpa using hx)
theorem cellsL_take (h : ∀ x, (enc x).length = size) (l : List α) (k : Nat) : (cellsL enc l).take (k * size) = cellsL enc (l.take k) := by
  induction l generalizing k with
  | nil => simp [cellsL]
  | cons x l ih =>
    cases k with
    | zero => simp [cellsL]
    | succ k =>
      rw [cellsL_cons, List.take_succ_cons, cellsL_cons, ← ih k, List.take_append, h, List.take_of_length_le (by rw [h, Nat.succ_mul]; omega), Nat.succ_mul, Nat.add_sub_cancel]
theorem cellsL_drop (h : ∀ x, (enc x).length = size) (l : List α) (k : Nat) : (cellsL enc l).drop (k * size) = cellsL enc (l.drop k) := by
  induction l generalizing k with
  | nil => simp [cellsL]
  | cons x l ih =>
    cases k with
    | zero => simp
    | succ k =>
      rw [cellsL_cons, List.drop_succ_cons, ← ih k, List.drop_append, h, List.drop_of_length_le (by rw [h, Nat.succ_mul]; omega), Nat.succ_mul, Nat.add_sub_cancel, List.nil_append]
theorem cellsL_one_cell (h : ∀ x, ∀ u ∈ enc x, u.oneCell' = true) (l : List α) : ∀ u ∈ cellsL enc l, u.oneCell' = true := by
  intro u hu
  obtain ⟨x, -, hx⟩ := List.mem_flatMap.1 hu
  exact h x u hx

variable {w w' : World} {base : Nat} {e : TypeId} {v : Value} {l : List α}

/-- A slice of the call's own that holds these. -/
def Own (w : World) (base : Nat) (e : TypeId) (size : Nat) (enc : α → List Value) (v : Value) (l : List α) : Prop := w.ownsRow base e size v l.length (cellsL enc l)

theorem Own.nil (w : World) (base : Nat) (e : TypeId) (size : Nat) (enc : α → List Value) : Own w base e size enc (.slice none 0 0) [] := World.ownsRow_nil w base e size
theorem Own.cases (h : Own w base e size enc v l) : (v = .slice none 0 0 ∧ l = []) ∨ ∃ g cap, v = .slice (some ⟨g, 0, none⟩) l.length cap ∧ base ≤ g ∧ g < w.heap.size ∧ l.length ≤ cap ∧ cap ≤ maxLen := by
  rcases h.2 with ⟨h1, h2⟩ | ⟨g, cap, cur, h1, h2, h3, h4, h5, -⟩
  · exact .inl ⟨h1, List.eq_nil_of_length_eq_zero h2⟩
  · exact .inr ⟨g, cap, h1, h2, (Array.getElem?_eq_some_iff.1 h3).1, h4, h5⟩
theorem Own.at {g cap : Nat} (henc : ∀ x, (enc x).length = size) (h : Own w base e size enc (.slice (some ⟨g, 0, none⟩) l.length cap) l) (i j : Nat) (x : α) (hx : l[i]? = some x) (hj : j < size) : w.cell? ⟨g, i * size + j, none⟩ = (enc x)[j]? := by
  have hi : i < l.length := (List.getElem?_eq_some_iff.1 hx).1
  have hm : i * size + j < l.length * size := by
    have : (i + 1) * size ≤ l.length * size := Nat.mul_le_mul_right _ hi
    rw [Nat.succ_mul] at this
    omega
  rw [World.ownsRow.cellAt h (i * size + j) hm, cellsL_at henc l i j x hx hj]
theorem Own.free {g cap : Nat} (h : Own w base e size enc (.slice (some ⟨g, 0, none⟩) l.length cap) l) (j : Nat) : w.frozen? ⟨g, j, none⟩ = false := World.ownsRow.frozenAt h j
theorem Own.kept {row : Option Nat} (h : Own w base e size enc v l) (hg : w.grownBy w' row) (hne : v.ownBlock = none ∨ v.ownBlock ≠ row) : Own w' base e size enc v l := World.ownsRow.kept h hg hne
theorem Own.lt (h : Own w base e size enc v l) : ∀ k, v.ownBlock = some k → base ≤ k ∧ k < w.heap.size := World.ownsRow.lt h
theorem Own.below {B : Nat} (h : Own w base e size enc v l) (hb : Below B w w') (hB : ∀ k, v.ownBlock = some k → k < B) : Own w' base e size enc v l := by
  refine ⟨h.1, ?_⟩
  rcases h.2 with hn | ⟨g, cap, cur, rfl, h2, h3, h4⟩
  · exact .inl hn
  · exact .inr ⟨g, cap, cur, rfl, h2, (hb.block g (hB g rfl)).trans h3, h4⟩
theorem Own.next (h : Own w base e size enc v l) (hb : Below w.heap.size w w') : Own w' base e size enc v l := h.below hb (fun k hk => (h.lt k hk).2)
theorem Own.drew (h : Own w base e size enc v l) : Own w.drew base e size enc v l := h
theorem Own.alloc (h : Own w base e size enc v l) (o : Obj) : Own (w.alloc o) base e size enc v l := World.ownsRow.alloc h o
theorem Own.setCell {a : Addr} (h : Own w base e size enc v l) (ha : v.ownBlock ≠ some a.block) (u : Value) : Own (w.setCell a u) base e size enc v l := by
  refine ⟨h.1, ?_⟩
  rcases h.2 with hn | ⟨g, cap, cur, rfl, h2, h3, h4⟩
  · exact .inl hn
  · exact .inr ⟨g, cap, cur, rfl, h2, (Below.heap_setCell w a u g (fun q => ha (by rw [← q]; rfl))).trans h3, h4⟩
theorem Own.mono {base' : Nat} (h : Own w base e size enc v l) (hb : base' ≤ base) : Own w base' e size enc v l :=
  ⟨h.1, h.2.imp id fun ⟨g, cap, cur, h1, h2, h3⟩ => ⟨g, cap, cur, h1, Nat.le_trans hb h2, h3⟩⟩
/-- A new one, of no elements, and of some. -/
theorem Own.made (w : World) (hb : base ≤ w.heap.size) (enc : α → List Value) : Own (w.alloc (.cells #[] e)) base e size enc (.slice (some ⟨w.heap.size, 0, none⟩) 0 0) [] := by
  have := World.ownsRow_made (e := e) (size := size) w #[] 0 hb (by unfold maxLen; omega) (by simp)
  exact this
theorem Own.lit (w : World) (hb : base ≤ w.heap.size) (henc : ∀ x, (enc x).length = size) (l : List α) (hl : l.length ≤ maxLen) : Own (w.alloc (.cells (cellsL enc l).toArray e)) base e size enc (.slice (some ⟨w.heap.size, 0, none⟩) l.length l.length) l :=
  World.ownsRow_lit w (cellsL enc l).toArray l.length hb hl (by simp [cellsL_len henc])

/-- What a piece of one reads as. -/
theorem Own.piece {g cap : Nat} (henc : ∀ x, (enc x).length = size) (h : Own w base e size enc (.slice (some ⟨g, 0, none⟩) l.length cap) l) (k m : Nat) :
    ∀ j u, (cellsL enc ((l.drop k).take m))[j]? = some u → w.cell? ((⟨g, 0, none⟩ : Addr).add (k * size + j)) = some u := by
  intro j u hu
  rw [← cellsL_take henc, ← cellsL_drop henc] at hu
  have hj : j < m * size := by
    rcases Nat.lt_or_ge j (m * size) with c | c
    · exact c
    · rw [List.getElem?_eq_none (by rw [List.length_take]; omega)] at hu; cases hu
  rw [List.getElem?_take_of_lt hj, List.getElem?_drop] at hu
  exact World.ownsRow.cells h (g := g) rfl _ _ hu

/-- A slice that is read: these are its elements. -/
def Src (w : World) (enc : α → List Value) (sv : Value) (news : List α) : Prop :=
  (sv = .slice none 0 0 ∧ news = []) ∨ ∃ ad c, sv = .slice (some ad) news.length c ∧ ∀ j u, (cellsL enc news)[j]? = some u → w.cell? (ad.add j) = some u

theorem Own.src (h : Own w base e size enc v l) : Src w enc v l := by
  rcases h.cases with ⟨rfl, rfl⟩ | ⟨g, cap, rfl, -⟩
  · exact .inl ⟨rfl, rfl⟩
  · exact .inr ⟨_, cap, rfl, fun j u hu => World.ownsRow.cells h (g := g) rfl j u hu⟩

/-- append: what is read stands behind what was there. -/
theorem Own.app {P : Program} {t ty : TypeId} {i : TypeInfo} {z sv : Value} {news : List α} {bytes : Nat} (h : Own w base e size enc v l) (hs : Src w enc sv news) (ht : P.underlying t = some (.slice e)) (hi : P.info? e = some i) (hz : i.zero = some z)
    (hsize : i.size = size) (hby : i.bytes = bytes) (hzs : z.cells.size = size) (hsz : 0 < size) (henc : ∀ x, (enc x).length = size) (h1 : ∀ x, ∀ u ∈ enc x, u.oneCell' = true)
    (h63 : l.length + news.length ≤ maxLen) (hbytes : (l.length + news.length) * bytes ≤ 140737488355328) (hbase : base ≤ w.heap.size) :
    ∃ v' w', (Builtin.append_ #[t, t] ty #[v, sv]).run P w = .ok v' w' ∧ Own w' base e size enc v' (l ++ news) ∧ w.grownBy w' v.ownBlock ∧ (v'.ownBlock = v.ownBlock ∨ v'.ownBlock = some w.heap.size) := by
  rcases hs with ⟨rfl, rfl⟩ | ⟨ad, c, rfl, hc⟩
  · refine ⟨v, w, run_append_owned_none w base t ty e i size ht hi v l.length _ h, by simpa using h, World.grownBy.refl w _, .inl rfl⟩
  · obtain ⟨v', w', hrun, h2, h3, -, h5⟩ := run_append_own_at (P := P) w base t ty e i z size bytes ht hi hz hsize hby hzs hsz v l.length _ h ad news.length c (cellsL enc news) (cellsL_len henc news) hc (cellsL_one_cell h1 news) h63 hbytes hbase
    refine ⟨v', w', hrun, ?_, h3, h5⟩
    unfold Own
    rw [cellsL_app, List.length_append]
    exact h2

/-- The operation. -/
theorem wp_append_lst {P : Program} {o : Oper} {a : Act} {w : World} {K : Act → World → Prop} {Q : Exit → Act → World → Prop} (s x : Operand) (t : TypeId) (ho : o.op = .call { callee := .builtin .append, args := #[s, x], argTypes := #[t, t] })
    (v' : Value) (w' : World) (hrun : (Builtin.append_ #[t, t] o.type #[a.eval s, a.eval x]).run P w = .ok v' w') (h : K (a.put o.dst v') w') : o.wp P a w K Q := by
  unfold Oper.wp execOp
  simp only [ho, resolve, invoke, builtin, Sem.run_bind, Sem.run_pure, Result.andThen_ok, List.map_toArray, List.map_cons, List.map_nil, hrun]
  exact h

theorem Own.head {g cap k c : Nat} (henc : ∀ x, (enc x).length = size) (h : Own w base e size enc (.slice (some ⟨g, 0, none⟩) l.length cap) l) (hk : k ≤ l.length) : Src w enc (.slice (some ⟨g, 0, none⟩) k c) (l.take k) := by
  refine .inr ⟨⟨g, 0, none⟩, c, by rw [List.length_take, Nat.min_eq_left hk], fun j u hu => ?_⟩
  have := h.piece henc 0 k j u (by simpa using hu)
  simpa using this
theorem Own.tail {g cap k c : Nat} (henc : ∀ x, (enc x).length = size) (h : Own w base e size enc (.slice (some ⟨g, 0, none⟩) l.length cap) l) (hk : k ≤ l.length) (hc : l.length ≤ cap) :
    Src w enc (.slice (if cap = k then some ⟨g, 0, none⟩ else some ⟨g, k * size, none⟩) (l.length - k) c) (l.drop k) := by
  by_cases q : cap = k
  · rw [if_pos q]
    have : l.drop k = [] := List.drop_eq_nil_of_le (by omega)
    refine .inr ⟨⟨g, 0, none⟩, c, by rw [List.length_drop], fun j u hu => ?_⟩
    rw [this] at hu
    simp [cellsL] at hu
  · rw [if_neg q]
    refine .inr ⟨⟨g, k * size, none⟩, c, by rw [List.length_drop], fun j u hu => ?_⟩
    have := h.piece henc k (l.length - k) j u (by rw [List.take_of_length_le (by simp)]; exact hu)
    have e : (⟨g, k * size, none⟩ : Addr).add j = (⟨g, 0, none⟩ : Addr).add (k * size + j) := by
      unfold Addr.add
      by_cases c1 : j = 0 <;> by_cases c2 : k * size + j = 0 <;> simp_all
      all_goals omega
    rw [e]
    exact this

theorem grown_below {a b : World} {row : Option Nat} {B : Nat} (h : a.grownBy b row) (hr : ∀ k, row = some k → B ≤ k) (hB : B ≤ a.heap.size) : Below B a b :=
  ⟨h.os, h.tape, h.output, h.size, fun i hi => h.block i (by omega) (fun q => by have := hr i q.symm; omega)⟩

/-- These in the place of those from j on. -/
def putAt (xs : List Value) : Nat → List Value → List Value
  | _, [] => xs
  | j, u :: us => putAt (xs.set j u) (j + 1) us
theorem putAt_len (us : List Value) : ∀ (xs : List Value) (j : Nat), (putAt xs j us).length = xs.length := by
  induction us with
  | nil => intro xs j; rfl
  | cons u us ih => intro xs j; rw [putAt, ih, List.length_set]
theorem putAt_get (us : List Value) : ∀ (xs : List Value) (j i : Nat), j + us.length ≤ xs.length → (putAt xs j us)[i]? = if j ≤ i ∧ i < j + us.length then us[i - j]? else xs[i]? := by
  induction us with
  | nil =>
    intro xs j i _
    rw [if_neg (by simp only [List.length_nil]; omega)]
    rfl
  | cons u us ih =>
    intro xs j i h
    simp only [List.length_cons] at h ⊢
    rw [putAt, ih _ _ _ (by rw [List.length_set]; omega)]
    by_cases c : j = i
    · subst c
      rw [if_neg (by omega), if_pos (by omega), List.getElem?_set_self (by omega)]
      simp
    · by_cases c2 : j + 1 ≤ i ∧ i < j + 1 + us.length
      · rw [if_pos c2, if_pos (by omega)]
        obtain ⟨d, hd⟩ : ∃ d, i - j = d + 1 := ⟨i - j - 1, by omega⟩
        rw [hd, show i - (j + 1) = d by omega]
        rfl
      · rw [if_neg c2, if_neg (by omega), List.getElem?_set_ne c]
theorem putAt_cells (henc : ∀ x, (enc x).length = size) (l : List α) (k : Nat) (x : α) (hk : k < l.length) : putAt (cellsL enc l) (k * size) (enc x) = cellsL enc (l.set k x) := by
  have hl := cellsL_len henc l
  have hks : k * size + size ≤ l.length * size := by
    have : (k + 1) * size ≤ l.length * size := Nat.mul_le_mul_right _ hk
    rw [Nat.succ_mul] at this
    exact this
  apply List.ext_getElem?
  intro i
  rw [putAt_get _ _ _ _ (by rw [henc, hl]; exact hks), henc]
  rcases Nat.eq_zero_or_pos size with h0 | h0
  · subst h0
    rw [if_neg (by omega), List.getElem?_eq_none (by rw [hl]; omega), List.getElem?_eq_none (by rw [cellsL_len henc]; omega)]
  rcases Nat.lt_or_ge i (l.length * size) with hi | hi
  · have hd : i = i / size * size + i % size := by have := Nat.div_add_mod i size; rw [Nat.mul_comm] at this; omega
    have hm := Nat.mod_lt i h0
    have hdl : i / size < l.length := Nat.div_lt_of_lt_mul (by rw [Nat.mul_comm]; exact hi)
    obtain ⟨y, hy⟩ : ∃ y, l[i / size]? = some y := ⟨_, List.getElem?_eq_getElem hdl⟩
    by_cases c : i / size = k
    · have hset : (l.set k x)[i / size]? = some x := by rw [c, List.getElem?_set_self hk]
      have e := cellsL_at henc (l.set k x) (i / size) (i % size) x hset hm
      rw [← hd] at e
      rw [e, if_pos (by rw [← c]; omega), ← c]
      congr 1
      omega
    · have hset : (l.set k x)[i / size]? = some y := by rw [List.getElem?_set_ne (fun q => c q.symm), hy]
      have e := cellsL_at henc (l.set k x) (i / size) (i % size) y hset hm
      have e2 := cellsL_at henc l (i / size) (i % size) y hy hm
      rw [← hd] at e e2
      rw [e, e2, if_neg]
      rintro ⟨h1, h2⟩
      apply c
      rcases Nat.lt_trichotomy (i / size) k with q | q | q
      · have : (i / size + 1) * size ≤ k * size := Nat.mul_le_mul_right _ q
        rw [Nat.succ_mul] at this
        omega
      · exact q
      · have : (k + 1) * size ≤ i / size * size := Nat.mul_le_mul_right _ q
        rw [Nat.succ_mul] at this
        omega
  · rw [if_neg (by omega), List.getElem?_eq_none (by rw [hl]; omega), List.getElem?_eq_none (by rw [cellsL_len henc, List.length_set]; omega)]

theorem own_setCells {g cap n : Nat} (us : List Value) : ∀ (j : Nat) (w : World) (xs : List Value), w.ownsRow base e size (.slice (some ⟨g, 0, none⟩) n cap) n xs →
    (w.setCells g j us).ownsRow base e size (.slice (some ⟨g, 0, none⟩) n cap) n (putAt xs j us) ∧ w.grownBy (w.setCells g j us) (some g) := by
  induction us with
  | nil => intro j w xs h; exact ⟨h, World.grownBy.refl w _⟩
  | cons u us ih =>
    intro j w xs h
    obtain ⟨h1, h2⟩ := World.ownsRow.stored h j u
    obtain ⟨h3, h4⟩ := ih (j + 1) _ _ h1
    exact ⟨h3, h4.os.trans h2.os, h4.tape.trans h2.tape, h4.output.trans h2.output, Nat.le_trans h2.size h4.size, fun i hi hr => (h4.block i (Nat.lt_of_lt_of_le hi h2.size) hr).trans (h2.block i hi hr)⟩

/-- An element is stored in the place of one. -/
theorem Own.store {g cap : Nat} (henc : ∀ x, (enc x).length = size) (h : Own w base e size enc (.slice (some ⟨g, 0, none⟩) l.length cap) l) (k : Nat) (x : α) (hk : k < l.length) :
    Own (w.setCells g (k * size) (enc x)) base e size enc (.slice (some ⟨g, 0, none⟩) l.length cap) (l.set k x) ∧ w.grownBy (w.setCells g (k * size) (enc x)) (some g) := by
  obtain ⟨h1, h2⟩ := own_setCells (enc x) (k * size) w _ h
  rw [putAt_cells henc l k x hk] at h1
  refine ⟨?_, h2⟩
  unfold Own
  rw [List.length_set]
  exact h1
theorem Own.there {g cap : Nat} (henc : ∀ x, (enc x).length = size) (h : Own w base e size enc (.slice (some ⟨g, 0, none⟩) l.length cap) l) (k : Nat) (hk : k < l.length) : w.there g (k * size) size := by
  intro j hj
  obtain ⟨x, hx⟩ : ∃ x, l[k]? = some x := ⟨_, List.getElem?_eq_getElem hk⟩
  refine ⟨?_, h.free _⟩
  rw [h.at henc k j x hx hj, List.getElem?_eq_getElem (by rw [henc]; exact hj)]
  rfl

theorem wpList_append_lst {P : Program} {ops : Array Oper} {rest : List Oper} {o : Oper} {a : Act} {w : World} {Q : Exit → Act → World → Prop} (hgd : o.guard = none) (s x : Operand) (t : TypeId) (ho : o.op = .call { callee := .builtin .append, args := #[s, x], argTypes := #[t, t] })
    (v' : Value) (w' : World) (hrun : (Builtin.append_ #[t, t] o.type #[a.eval s, a.eval x]).run P w = .ok v' w') (h : wpList P ops Q rest (a.put o.dst v') w') : wpList P ops Q (o :: rest) a w :=
  wpList_plain hgd fun _ hK => wp_append_lst s x t ho v' w' hrun (hK _ _ h)
end
end
section
open Go.RowKit
structure ElT {α : Type} (P : Program) (t e : TypeId) (size : Nat) (enc : α → List Value) : Prop where
 ht : P.underlying t = some (.slice e)
 info : ∃ i z b, P.info? e = some i ∧ i.zero = some z ∧ i.size = size ∧ i.bytes = b ∧ z.cells.size = size ∧ b ≤ 1000
 pos : 0 < size
 len : ∀ x, (enc x).length = size
 one : ∀ x, ∀ u ∈ enc x, u.oneCell' = true
section
variable {α : Type} {P : Program} {t e : TypeId} {size : Nat} {enc : α → List Value} {w w' w0 : World} {base Z : Nat}
theorem ElT.app (E : ElT P t e size enc) {v sv : Value} {l news : List α} (h : Own w base e size enc v l) (hs : Src w enc sv news) (hl : l.length + news.length ≤ 2000) (hb : base ≤ w.heap.size) (ty : TypeId) :
 ∃ v' w', (Builtin.append_ #[t, t] ty #[v, sv]).run P w = .ok v' w' ∧ Own w' base e size enc v' (l ++ news) ∧ w.grownBy w' v.ownBlock ∧ (v'.ownBlock = v.ownBlock ∨ v'.ownBlock = some w.heap.size) := by
 obtain ⟨i, z, b, h1, h2, h3, h4, h5, h6⟩ := E.info
 exact h.app hs E.ht h1 h2 h3 h4 h5 E.pos E.len E.one (by unfold maxLen; omega) (by
  have : (l.length + news.length) * b ≤ 2000 * 1000 := Nat.mul_le_mul hl h6
  omega) hb
theorem grownBelow {a b : World} {row : Option Nat} {B : Nat} {w0 : World} (h0 : Below B w0 a) (h : a.grownBy b row) (hr : ∀ k, row = some k → B ≤ k) (hB : B ≤ a.heap.size) : Below B w0 b := h0.grown h hB hr
structure InsW (e : TypeId) (size : Nat) (enc : α → List Value) (w0 : World) (A : List α) (x : α) (B : List α) (a0 a4 a6 a7 a11 : Bool) (v0 v4 v6 v7 v11 : Value) (w : World) : Prop where
 below : Below w0.heap.size w0 w
 p0 : a0 = true → a4 = false → Own w w0.heap.size e size enc v0 []
 p4 : a4 = true → a7 = false → Own w w0.heap.size e size enc v4 A
 p6 : a6 = true → a7 = false → Own w w0.heap.size e size enc v6 [x]
 n0 : a6 = true → a0 = true → a4 = false → ∀ g, v6.ownBlock = some g → v0.ownBlock ≠ some g
 n4 : a6 = true → a4 = true → a7 = false → ∀ g, v6.ownBlock = some g → v4.ownBlock ≠ some g
 p7 : a7 = true → a11 = false → Own w w0.heap.size e size enc v7 (A ++ [x])
 p11 : a11 = true → Own w w0.heap.size e size enc v11 (A ++ [x] ++ B)
 o4 : a4 = true → a0 = true
 o7 : a7 = true → a4 = true ∧ a6 = true
 o11 : a11 = true → a7 = true
variable {A B : List α} {x : α} {a0 a4 a6 a7 a11 : Bool} {v0 v4 v6 v7 v11 : Value}
theorem InsW.start (w : World) : InsW e size enc w A x B false false false false false v0 v4 v6 v7 v11 w.drew :=
 ⟨(Below.refl _ _).drew, (fun h => Bool.noConfusion h), (fun h => Bool.noConfusion h), (fun h => Bool.noConfusion h), (fun h => Bool.noConfusion h), (fun h => Bool.noConfusion h), (fun h => Bool.noConfusion h), (fun h => Bool.noConfusion h), (fun h => Bool.noConfusion h), (fun h => Bool.noConfusion h), (fun h => Bool.noConfusion h)⟩
end
end
end Go.Proofs.YtccbdmccfbjmeaaDoor
