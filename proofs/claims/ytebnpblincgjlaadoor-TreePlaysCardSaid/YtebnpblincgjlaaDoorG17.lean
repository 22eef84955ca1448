import Derived.Test.YtebnpblincgjlaaDoorG13
import Derived.Test.YtebnpblincgjlaaDoorG16
import Derived.Test.YtebnpblincgjlaaDoorG11
import Derived.Test.YtebnpblincgjlaaDoorG1
import Derived.Test.YtebnpblincgjlaaDoorG12
set_option linter.unusedSimpArgs false
set_option linter.unusedVariables false
section
/- What is told of functions that answer a pointer to a block they made. -/
namespace Go.Proofs.YtebnpblincgjlaaDoor.Ev
open Go.RowKit
/-- A function that answers a pointer to a new block. -/
def Make (P : Program) (f : FuncId) (args : List Value) (A : Bds) (ty : TypeId) (Y : Type) (cs' : Y → Array Value) (A' : Y → Bds) : Prop :=
  ∀ w0 (F : Fm) (R : Bd) (k : Nat) w, F k = none → Kf w0 F ((sepL A).sep R) w → Calls P f args.toArray w fun e w' => ∃ y b, e = .returned (.pointer (some ⟨b, 0, none⟩)) ∧ Kf w0 (upF F k (b, cs' y, ty)) ((sepL (A' y)).sep R) w'
section
variable {P : Program} {f : FuncId} {args : List Value} {ty : TypeId} {A : Bds} {Y : Type} {cs' : Y → Array Value} {A' : Y → Bds}
def finM (rs : List ResultVar) (G : Goal) : Exit → St → List (Ora P) → Pr := fun e s r =>
  match r with
  | .fin G' _ m A _ :: _ => match rs with
    | [.tmp d] => match s.fr[d]? with
      | some (.p l 0) => Pr.and (fun _ _ => [(.b (isOut e), .b true), (.g G', .g G), (.m (s.m[l]?).toList, .m m), (.d s.A, .d A)]) (fun _ _ => ([], []))
      | _ => Pr.no
    | _ => Pr.no
  | _ => Pr.no
def makG (ty : TypeId) (Y : Type) (cs' : Y → Array Value) (A' : Y → Bds) (R : Bd) : Goal := fun _ m A => ∃ y, m = [(cs' y, ty)] ∧ A = A' y ++ [R]
def finP (ty : TypeId) (Y : Type) (cs' : Y → Array Value) (A' : Y → Bds) (R : Bd) (y : Y) : Ora P := .fin (makG ty Y cs' A' R) undef [(cs' y, ty)] (A' y ++ [R]) ⟨y, rfl, rfl⟩
theorem ev_make (r : Bd → (Y → Ora P) → List (Ora P)) (h : ∀ R β w, (evFn P 0 f (args.map .v) [] (A ++ [R]) (r R (finP ty Y cs' A' R)) (fun rs => finM rs (makG ty Y cs' A' R)) β w).1 = (evFn P 0 f (args.map .v) [] (A ++ [R]) (r R (finP ty Y cs' A' R)) (fun rs => finM rs (makG ty Y cs' A' R)) β w).2) : Make P f args A ty Y cs' A' := by
  intro w0 F R k w hFk K
  have ea : ((args.map SV.v).map (SV.den [])).toArray = args.toArray := by
    rw [List.map_map]
    have : (SV.den []) ∘ SV.v = id := by funext x; rfl
    rw [this, List.map_id]
  rw [← ea]
  refine evFn_sound (w0 := w0) (F := F) (β := []) (h R) (Nat.zero_le _) rfl (Kv.start (sep_app K)) fun fn e s' r' β' a' w' k1 Rl k3 k4 => ?_
  unfold finM at k1
  split at k1
  · next G' u m2 A2 hG r2 =>
    split at k1
    · next d hrs =>
      split at k1
      · next l hl =>
        obtain ⟨hk, -⟩ := okP_and k1
        have j := hk [] default
        simp only [okk_cons] at j
        obtain ⟨j1, j2, j3, j4, -⟩ := j
        injection j1 with j1
        injection j2 with j2
        injection j3 with j3
        injection j4 with j4
        subst j2
        obtain ⟨y, e1, e2⟩ := hG
        have hm : s'.m[l]? = some (cs' y, ty) := by
          rw [e1] at j3
          cases c : s'.m[l]? with
          | none => rw [c] at j3; cases j3
          | some x => rw [c] at j3; injection j3 with j3; rw [j3]
        have hd := Rl.fr d _ hl
        have er : fn.results = #[ResultVar.tmp d] := by
          have : fn.results.toList = [ResultVar.tmp d] := hrs
          rw [← Array.toArray_toList (xs := fn.results), this]
        have hr : (results fn a'.tmps).run P w' = .ok (.pointer (some ⟨β'.getD l 0, 0, none⟩)) w' := by
          refine results_of1 er ?_
          have q : a'.tmps.getD d undef = .pointer (some ⟨β'.getD l 0, 0, none⟩) := hd
          unfold resM
          dsimp only
          rw [q]
          rfl
        refine isOut_post j1 Rl.df hr ⟨y, β'.getD l 0, rfl, ?_⟩
        have kk : Kf w0 (mix β' s'.m F) (sepL (A' y ++ [R])) w' := by
          have := Rl.k
          rw [j4, e2] at this
          exact this
        have hown : mix β' s'.m F (2 * l) = some (β'.getD l 0, cs' y, ty) := by rw [mix_own, hm]; rfl
        have hodd : ∀ i, mix β' s'.m F (2 * i + 1) = F i := fun i => by
          unfold mix
          rw [if_neg (by omega), show (2 * i + 1) / 2 = i by omega]
        have key : ∀ {i x}, upF F k (β'.getD l 0, cs' y, ty) i = some x → ∃ i', mix β' s'.m F i' = some x ∧ ((i = k ∧ i' = 2 * l) ∨ (i ≠ k ∧ i' = 2 * i + 1)) := fun {i x} hx => by
          unfold upF at hx
          split at hx
          · injection hx with hx
            exact ⟨2 * l, by rw [hown, hx], .inl ⟨by assumption, rfl⟩⟩
          · next c => exact ⟨2 * i + 1, by rw [hodd]; exact hx, .inr ⟨c, rfl⟩⟩
        refine app_sep (Kf.re kk (fun i x hx => (key hx).elim fun i' q => ⟨i', q.1⟩) fun i i' x x' hx hx' q => ?_)
        obtain ⟨i1, a1, a2⟩ := key hx
        obtain ⟨i2, b1, b2⟩ := key hx'
        have := kk.inj _ _ _ _ a1 b1 q
        omega
      · exact (okP_no k1).elim
    · exact (okP_no k1).elim
  · exact (okP_no k1).elim
/-- A call of such a function. -/
def oN (h : Make P f args A ty Y cs' A') (p : Nat) (rest : Y → List (Ora P)) : Ora P :=
  .n Y (.c f (args.map .v)) p A cs' ty A' (fun w0 F R β k w hF K => by
    have ea : ((args.map SV.v).map (SV.den β)).toArray = args.toArray := by
      rw [List.map_map]
      have : (SV.den β) ∘ SV.v = id := by funext x; rfl
      rw [this, List.map_id]
    show Calls P f _ w _
    rw [ea]
    exact (h w0 F R k w hF K).mono fun e w' ⟨y, b, e1, e2⟩ => ⟨_, e1, y, b, rfl, e2⟩) rest
end
end Go.Proofs.YtebnpblincgjlaaDoor.Ev
end
namespace Go.Proofs.YtebnpblincgjlaaDoor
section
/- Layer 18, by the evaluator: begin, end. -/
open Go.RowKit
open Ev
set_option maxRecDepth 100000
/-- What an act is, at first: a state of its own. -/
def begC (s : Go.Proofs.YtebnpblincgjlaaDoor.St) (y : H4) : Array Value := (stL s (.slice y.1.1 s.po.length y.1.2) (.slice y.2.1.1 s.vl.length y.2.1.2) (.slice y.2.2.1.1 s.st.length y.2.2.1.2) (.slice y.2.2.2.1 s.fd.length y.2.2.2.2) ++ [Value.slice none 0 0, Value.slice none 0 0]).toArray
theorem begin_make (s : Go.Proofs.YtebnpblincgjlaaDoor.St) (x : H4) (h : Few s) : Ev.Make Tryd.prog 29 [stH s x] (stN s x) 112 H4 (begC s) (fun y => stN s y ++ stN s x) :=
  ev_make (fun R fin => [oF (clone_fun s x h) ((none, 0), (none, 0), (none, 0), (none, 0)) 0 fun y => [fin y]]) (fun R β w => by kernel_rfl)
/-- The slices of a state of its own, as an act keeps them. -/
def hpN (s : Go.Proofs.YtebnpblincgjlaaDoor.St) (y : H4) : Hp := ⟨y.1.1, s.po.length, y.1.2, .slice y.2.1.1 s.vl.length y.2.1.2, .slice y.2.2.1.1 s.st.length y.2.2.1.2, .slice y.2.2.2.1 s.fd.length y.2.2.2.2⟩
theorem end_meth (s : Go.Proofs.YtebnpblincgjlaaDoor.St) (x : H4) (t : TS) (y : H2) : Meth Tryd.prog 32 [] (acA t (hpN s x) y) 112 [] Unit (fun _ => .tuple #[stV t.s (.slice x.1.1 s.po.length x.1.2) (.slice x.2.1.1 s.vl.length x.2.1.2) (.slice x.2.2.1.1 s.st.length x.2.2.1.2) (.slice x.2.2.2.1 s.fd.length x.2.2.2.2), .agg #[.slice y.1.1 t.told.length y.1.2, .slice y.2.1 t.fl.length y.2.2]]) (fun _ => acA t (hpN s x) y) (fun _ => []) :=
  ev_meth (fun R fin => [fin ()]) (fun R β w => by kernel_rfl)
end
section
/- Layer 18, by the evaluator: Tick. -/
open Go.RowKit
open Ev
set_option maxRecDepth 100000
theorem Ev.swap_own {X Y : Bd} {A : Bds} {w0 w : World} {F : Fm} {R : Bd} (K : Kf w0 F ((sepL (X :: Y :: A)).sep R) w) : Kf w0 F ((sepL (Y :: X :: A)).sep R) w :=
  Kf.iff K (fun h => ⟨⟨h.1.2.1.1, ⟨h.1.1, h.1.2.1.2.1, fun k q hk => h.1.2.2 k q (.inr hk)⟩, fun k q hk => hk.elim (fun hk => h.1.2.2 k hk (.inl q)) (h.1.2.1.2.2 k q)⟩, h.2.1, fun k hk => h.2.2 k (hk.elim (fun q => .inr (.inl q)) (fun q => q.elim .inl fun q => .inr (.inr q)))⟩)
    (fun k hk => hk.elim (fun q => .inl (q.elim (fun q => .inr (.inl q)) (fun q => q.elim .inl fun q => .inr (.inr q)))) .inr) (by
    show max (max Y.lo (max X.lo (sepL A).lo)) R.lo ≤ max (max X.lo (max Y.lo (sepL A).lo)) R.lo
    omega)
/-- What an act owns, at first. -/
theorem act_own {X : Bd} {w0 w : World} {F : Fm} {R : Bd} (K : Kf w0 F ((sepL [bdR, X]).sep R) w) : Kf w0 F ((sepL [X, bdO 89 17 tdC (.slice none 0 0) [], bdO 3 1 inC (.slice none 0 0) [], bdR]).sep R) w :=
  swap_own (nil_own 89 17 tdC _ w0 F R w (swap_own (nil_own 3 1 inC _ w0 F R w (swap_own K))))
theorem step_role (x : Po) (d : Int) : (stepP x d).p10 = x.p10 := by
  unfold stepP
  repeat' split
  all_goals rfl
theorem step_roles {t : TS} (h : rolesB t.s.po) : rolesB (stepMM t).s.po := by
  refine roles_kept (foldChanged_same _ _ _) fun k y hy => ?_
  rw [mapTo_get] at hy
  split at hy
  · obtain ⟨x, hx, rfl⟩ := Option.map_eq_some_iff.1 hy
    have e : (stF t.s.cf.p3 k x).p10 = x.p10 := step_role _ _
    rw [e]
    exact h k x hx
  · exact h k y hy
theorem step_is (t : TS) : (stepMM t).s.po.length = t.s.po.length ∧ (stepMM t).s.cf = t.s.cf ∧ (stepMM t).told = t.told := by
  have m1 := mapTo_is (stF t.s.cf.p3) t t.s.po.length
  have m2 := foldChanged_is (mapTo (stF t.s.cf.p3) t t.s.po.length) (markTo (opF t.s.cf.p3) t.s.po t.s.po.length) (markTo (opF t.s.cf.p3) t.s.po t.s.po.length).length
  exact ⟨m2.1.trans m1.1, m2.2.1.trans m1.2.1, m2.2.2.2.trans m1.2.2.2⟩
theorem choose_fl (t : TS) : (chooseM t).fl.length ≤ t.fl.length + t.s.po.length * t.s.po.length ∧ (chooseM t).s.cf = t.s.cf := by
  have lo := markTo_lt (p := openF t) (l := t.s.po) t.s.po.length
  have m1 := mapTo_is (asF t) t t.s.po.length
  have m2 := foldChanged_is (mapTo (asF t) t t.s.po.length) (markTo (openF t) t.s.po t.s.po.length) (markTo (openF t) t.s.po t.s.po.length).length
  have m3 := foldTell_is (foldT changedM (mapTo (asF t) t t.s.po.length) (markTo (openF t) t.s.po t.s.po.length) (markTo (openF t) t.s.po t.s.po.length).length) (markTo (anewF t) t.s.po t.s.po.length) (markTo (anewF t) t.s.po t.s.po.length).length
  have q := Nat.mul_le_mul_right t.s.po.length lo.2
  refine ⟨?_, ?_⟩
  · show (foldT tellM _ _ _).fl.length ≤ _
    rw [m3.2.1]
    have := m2.2.2.1
    rw [m1.2.2.1, m1.1] at this
    omega
  · show (foldT tellM _ _ _).s.cf = _
    rw [m3.1, m2.2.1, m1.2.1]
def tickM (s : Go.Proofs.YtebnpblincgjlaaDoor.St) : TS :=
  let t3 := stepMM (chooseM (fadeM ⟨s, [], []⟩))
  let t4 := t3.setBeat (IntKind.i64.wrap (t3.s.beat - 1))
  if t4.s.beat ≤ 0 then beatM (t4.setBeat t4.s.cf.p2) else t4
/-- What a call on a state answers: what becomes of it, and what is sent and flushed. -/
def evAns (s : Go.Proofs.YtebnpblincgjlaaDoor.St) (t : TS) (y : H4 × H2) : Value := .tuple #[stV t.s (.slice y.1.1.1 s.po.length y.1.1.2) (.slice y.1.2.1.1 s.vl.length y.1.2.1.2) (.slice y.1.2.2.1.1 s.st.length y.1.2.2.1.2) (.slice y.1.2.2.2.1 s.fd.length y.1.2.2.2.2), .agg #[.slice y.2.1.1 t.told.length y.2.1.2, .slice y.2.2.1 t.fl.length y.2.2.2]]
def evOwn (s : Go.Proofs.YtebnpblincgjlaaDoor.St) (x : H4) (t : TS) (y : H4 × H2) : Bds := acO t (hpN s y.1) y.2 ++ (bdO 98 3 vrC (.slice y.1.2.1.1 s.vl.length y.1.2.1.2) s.vl :: bdO 105 8 srC (.slice y.1.2.2.1.1 s.st.length y.1.2.2.1.2) s.st :: bdO 108 9 frC (.slice y.1.2.2.2.1 s.fd.length y.1.2.2.2.2) s.fd :: stN s x)
theorem tick_fun (s : Go.Proofs.YtebnpblincgjlaaDoor.St) (x : H4) (h : Few s) (hn : s.po.length ≤ 16) (hid : 0 ≤ s.cf.p0) (hok : ∀ (k : Nat) (x : Po), (fadeM ⟨s, [], []⟩).s.po[k]? = some x → okP x) : Fun Tryd.prog 12 [stH s x] (bdR :: stN s x) (H4 × H2) (evAns s (tickM s)) (evOwn s x (tickM s)) := by
  have nn : s.po.length * s.po.length ≤ 16 * 16 := Nat.mul_le_mul hn hn
  have nm : (s.po.length + 1) * s.po.length ≤ 17 * 16 := Nat.mul_le_mul (by omega) hn
  have a1 := fun y : H4 => fade_acts (t := ⟨s, [], []⟩) (by show s.po.length ≤ _; omega) (hpN s y) ((none, 0), (none, 0)) rfl
  have f1 := mapTo_is (fun _ x => tick1 (fadeP x)) ⟨s, [], []⟩ s.po.length
  have f1 : (fadeM ⟨s, [], []⟩).s.po.length = s.po.length ∧ (fadeM ⟨s, [], []⟩).s.cf = s.cf ∧ (fadeM ⟨s, [], []⟩).fl = [] ∧ (fadeM ⟨s, [], []⟩).told = [] := f1
  unfold tickM
  obtain ⟨t1, h1⟩ : ∃ t1, fadeM ⟨s, [], []⟩ = t1 := ⟨_, rfl⟩
  rw [h1] at a1 f1 hok ⊢
  have a2 := fun (y : H4) (z : H2) => choose_acts (t := t1) (by omega) (by rw [f1.1, f1.2.2.1]; show 0 + _ ≤ _; omega) (by rw [f1.1, f1.2.2.2]; show 0 + _ ≤ _; omega) (by rw [f1.2.1]; exact hid) hok (hpN s y) z f1.1
  have f2 := chooseM_is t1
  have g2 := choose_fl t1
  rw [f1.1] at f2 g2
  rw [f1.2.2.2] at f2
  rw [f1.2.2.1] at g2
  obtain ⟨t2, h2⟩ : ∃ t2, chooseM t1 = t2 := ⟨_, rfl⟩
  rw [h2] at a2 f2 g2 ⊢
  have k1 : t2.fl.length ≤ 0 + s.po.length * s.po.length := g2.1
  have k2 : t2.told.length ≤ 0 + s.po.length := f2.2.1
  have a3 := fun (y : H4) (z : H2) => step_acts (t := t2) (by omega) (by rw [f2.1]; omega) (hpN s y) z f2.1
  have f3 := step_is t2
  have r3 := step_roles f2.2.2
  rw [f2.1] at f3
  obtain ⟨t3, h3⟩ : ∃ t3, stepMM t2 = t3 := ⟨_, rfl⟩
  rw [h3] at a3 f3 r3 ⊢
  dsimp only
  by_cases hb : (t3.setBeat (IntKind.i64.wrap (t3.s.beat - 1))).s.beat ≤ 0
  · rw [if_pos hb]
    have a4 := fun (y : H4) (z : H2) => beat_acts (t := (t3.setBeat (IntKind.i64.wrap (t3.s.beat - 1))).setBeat t3.s.cf.p2) (by show t3.s.po.length ≤ _; omega) (by show t3.told.length + t3.s.po.length ≤ _; rw [f3.2.2]; omega) r3 (hpN s y) z f3.1
    obtain ⟨t5, h5⟩ : ∃ t5, beatM ((t3.setBeat (IntKind.i64.wrap (t3.s.beat - 1))).setBeat t3.s.cf.p2) = t5 := ⟨_, rfl⟩
    rw [show beatM ((t3.setBeat (IntKind.i64.wrap (t3.s.beat - 1))).setBeat (t3.setBeat (IntKind.i64.wrap (t3.s.beat - 1))).s.cf.p2) = t5 from h5]
    rw [h5] at a4
    exact ev_fun (fun R fin => [oN (begin_make s x h) 1 fun y => [.a 0 _ _ (fun _ _ _ _ K => act_own (X := bdO 73 21 poC (.slice y.1.1 s.po.length y.1.2) s.po) K), oM (a1 y) 3 0 fun z1 => [oM (a2 y z1) 3 0 fun z2 => [oM (a3 y z2) 3 0 fun z3 => [.k, .b _ _ (decide_eq_true hb), oM (a4 y z3) 3 0 fun z4 => [oM (end_meth s y t5 z4) 3 0 fun _ => [fin (y, z4)]]]]]]]) (fun R β w => by kernel_rfl)
  · rw [if_neg hb]
    exact ev_fun (fun R fin => [oN (begin_make s x h) 1 fun y => [.a 0 _ _ (fun _ _ _ _ K => act_own (X := bdO 73 21 poC (.slice y.1.1 s.po.length y.1.2) s.po) K), oM (a1 y) 3 0 fun z1 => [oM (a2 y z1) 3 0 fun z2 => [oM (a3 y z2) 3 0 fun z3 => [.k, .b _ _ (decide_eq_false hb), oM (end_meth s y (t3.setBeat (IntKind.i64.wrap (t3.s.beat - 1))) z3) 3 0 fun _ => [fin (y, z3)]]]]]]) (fun R β w => by kernel_rfl)
end
section
/- Layer 18, by the evaluator: Hear. -/
open Go.RowKit
open Ev
set_option maxRecDepth 100000
def hearC (s : Go.Proofs.YtebnpblincgjlaaDoor.St) (p : Int) (q : Pd) (v : Vc) : TS := if 1 ≤ p ∧ p ≤ (s.po.length : Int) then (match s.po[(p - 1).toNat]? with
  | some x => if onP x = true then hearM ⟨s, [], []⟩ (p - 1).toNat q v else ⟨s, [], []⟩
  | none => ⟨s, [], []⟩) else ⟨s, [], []⟩
theorem has_any (s : Go.Proofs.YtebnpblincgjlaaDoor.St) (x : H4) (p : Int) (w : World) : Calls Tryd.prog 42 #[stH s x, iv p] w fun e w' => e = .returned (.bool (decide (1 ≤ p) && decide (p ≤ (s.po.length : Int)))) ∧ Below w.heap.size w w' := by
  cases h : decide (1 ≤ p)
  · exact ev_call [.b _ _ h] (fun _ _ => by kernel_rfl) w
  · exact ev_call [.b _ _ h] (fun _ _ => by kernel_rfl) w
theorem hear_fun (s : Go.Proofs.YtebnpblincgjlaaDoor.St) (x : H4) (h : Few s) (hn : s.po.length ≤ 16) (hid : 0 ≤ s.cf.p0) (hok : ∀ (k : Nat) (x : Po), s.po[k]? = some x → okP x) (p : Int) (q : Pd) (v : Vc) (hv : v.ok) : Fun Tryd.prog 17 [stH s x, iv p, pdV (pdU q v)] (bdR :: stN s x) (H4 × H2) (evAns s (hearC s p q v)) (evOwn s x (hearC s p q v)) := by
  have nm : (s.po.length + 1) * s.po.length ≤ 17 * 16 := Nat.mul_le_mul (by omega) hn
  unfold hearC
  cases hB : (decide (1 ≤ p) && decide (p ≤ (s.po.length : Int)))
  · rw [if_neg (by intro z; rw [decide_eq_true z.1, decide_eq_true z.2] at hB; cases hB)]
    exact ev_fun (fun R fin => [oN (begin_make s x h) 1 fun y => [.a 0 _ _ (fun _ _ _ _ K => act_own (X := bdO 73 21 poC (.slice y.1.1 s.po.length y.1.2) s.po) K), .c _ _ _ (has_any s x p), .b _ _ hB, No, oM (end_meth s y ⟨s, [], []⟩ ((none, 0), (none, 0))) 4 0 fun _ => [fin (y, ((none, 0), (none, 0)))]]]) (fun R β w => by kernel_rfl)
  · have hb : 1 ≤ p ∧ p ≤ (s.po.length : Int) := by simpa using hB
    rw [if_pos hb]
    obtain ⟨i, hi⟩ : ∃ i : Nat, p = (i : Int) + 1 := ⟨(p - 1).toNat, by omega⟩
    subst hi
    rw [show ((i : Int) + 1 - 1).toNat = i by omega]
    have hlt : i < s.po.length := by omega
    have er : iv (IntKind.i64.wrap ((i : Int) + 1 - 1)) = iv (i : Nat) := by rw [show ((i : Int) + 1 - 1) = (i : Int) by omega, wrap_nat (by omega)]
    obtain ⟨z, hz⟩ : ∃ z, s.po[i]? = some z := ⟨_, List.getElem?_eq_getElem hlt⟩
    have hz2 : s.po[i]? = some (poU z (vecN z)) := by rw [hz]; exact congrArg some (okP_poU (hok i z hz))
    rw [hz]
    dsimp only
    cases ho : onP z
    · rw [if_neg (by decide)]
      exact ev_fun (fun R fin => [oN (begin_make s x h) 1 fun y => [.a 0 _ _ (fun _ _ _ _ K => act_own (X := bdO 73 21 poC (.slice y.1.1 s.po.length y.1.2) s.po) K), .c _ _ _ (has_any s x ((i : Int) + 1)), .b _ _ hB, .r _ _ er, oJx poE 7 x.1.1 s.po.length x.1.2 hlt rfl, oJd poE 7 x.1.1 s.po.length x.1.2 hz2 rfl, .c _ _ _ (on_any (poU z (vecN z))), .b _ _ ho, oM (end_meth s y ⟨s, [], []⟩ ((none, 0), (none, 0))) 4 0 fun _ => [fin (y, ((none, 0), (none, 0)))]]]) (fun R β w => by kernel_rfl)
    · rw [if_pos rfl]
      have ha := fun y : H4 => hear_acts (t := ⟨s, [], []⟩) q v hz2 hok hv hid (by show s.po.length ≤ _; omega) (by show 0 + s.po.length + (s.po.length + 1) * s.po.length ≤ _; omega) (by show 0 + s.po.length ≤ _; omega) (hpN s y) ((none, 0), (none, 0)) rfl
      obtain ⟨t5, h5⟩ : ∃ t5, hearM ⟨s, [], []⟩ i q v = t5 := ⟨_, rfl⟩
      rw [h5] at ha ⊢
      exact ev_fun (fun R fin => [oN (begin_make s x h) 1 fun y => [.a 0 _ _ (fun _ _ _ _ K => act_own (X := bdO 73 21 poC (.slice y.1.1 s.po.length y.1.2) s.po) K), .c _ _ _ (has_any s x ((i : Int) + 1)), .b _ _ hB, .r _ _ er, oJx poE 7 x.1.1 s.po.length x.1.2 hlt rfl, oJd poE 7 x.1.1 s.po.length x.1.2 hz2 rfl, .c _ _ _ (on_any (poU z (vecN z))), .b _ _ ho, .r _ _ er, oM (ha y) 4 0 fun z4 => [oM (end_meth s y t5 z4) 4 0 fun _ => [fin (y, z4)]]]]) (fun R β w => by kernel_rfl)
end
section
/- Shorter laws of a walk. -/
open Go.RowKit

theorem eg {ac A : Act} (h : ac = A) {u : Nat} {v : Value} (q : A.eval (.tmp u) = v) : ac.eval (.tmp u) = v ∧ ac.tmps[u]?.getD undef = v := by
  subst h
  refine ⟨q, ?_⟩
  rw [← q]
  show _ = ac.tmps.getD u undef
  simp [Array.getD_eq_getD_getElem?]
end
section
/- Shorter laws of a walk. -/
open Go.RowKit
theorem nup {L : Nat → Bool} {j i : Nat} (h : L j = true → L i = true) (hL : L i = false) : L j = false := by
  cases c : L j
  · rfl
  · rw [h c] at hL; cases hL
/-- Values, named short. -/
abbrev pT (b j : Nat) : Value := .pointer (some ⟨b, j, none⟩)
abbrev iV (x : Int) : Value := .int .i64 x
section
variable {P : Program} {ops : Array Oper} {Q : Exit → Act → World → Prop} {a a' : Act} {w : World} {rest : List Oper} {o : Oper}
theorem wk (hp : a.put o.dst undef = a' := by first | (simp only [pT, iV, Act.put, gA, gS, gZ, sA, sZ, sS]; rfl) | rfl) (hw : Region.wanted o (yielded ops a.tmps) = false := by kernel_rfl) (h : wpList P ops Q rest a' w) : wpList P ops Q (o :: rest) a w := wpList_skip hw (hp ▸ h)
theorem wz1 (v : Value) (hp : a.put o.dst v = a' := by first | (simp only [pT, iV, Act.put, gA, gS, gZ, sA, sZ, sS]; rfl) | rfl) (hw : Region.wanted o (yielded ops a.tmps) = true := by rfl) (h1 : (execOp a.eval o).run P w = .ok (.value v) w := by go_simp) (h : wpList P ops Q rest a' w) : wpList P ops Q (o :: rest) a w := wpList_val v hw h1 (hp ▸ h)
theorem wz2 {a1 a2 : Act} {o1 o2 : Oper} (v1 v2 : Value)
    (p1 : a.put o1.dst v1 = a1 := by first | (simp only [pT, iV, Act.put, gA, gS, gZ, sA, sZ, sS]; rfl) | rfl) (q1 : Region.wanted o1 (yielded ops a.tmps) = true := by rfl) (h1 : (execOp a.eval o1).run P w = .ok (.value v1) w := by go_simp)
    (p2 : a1.put o2.dst v2 = a2 := by first | (simp only [pT, iV, Act.put, gA, gS, gZ, sA, sZ, sS]; rfl) | rfl) (q2 : Region.wanted o2 (yielded ops a1.tmps) = true := by rfl) (h2 : (execOp a1.eval o2).run P w = .ok (.value v2) w := by go_simp)
    (h : wpList P ops Q rest a2 w) : wpList P ops Q (o1 :: o2 :: rest) a w := wz1 v1 p1 q1 h1 (wz1 v2 p2 q2 h2 h)
theorem wz3 {a1 a2 a3 : Act} {o1 o2 o3 : Oper} (v1 v2 v3 : Value)
    (p1 : a.put o1.dst v1 = a1 := by first | (simp only [pT, iV, Act.put, gA, gS, gZ, sA, sZ, sS]; rfl) | rfl) (q1 : Region.wanted o1 (yielded ops a.tmps) = true := by rfl) (h1 : (execOp a.eval o1).run P w = .ok (.value v1) w := by go_simp)
    (p2 : a1.put o2.dst v2 = a2 := by first | (simp only [pT, iV, Act.put, gA, gS, gZ, sA, sZ, sS]; rfl) | rfl) (q2 : Region.wanted o2 (yielded ops a1.tmps) = true := by rfl) (h2 : (execOp a1.eval o2).run P w = .ok (.value v2) w := by go_simp)
    (p3 : a2.put o3.dst v3 = a3 := by first | (simp only [pT, iV, Act.put, gA, gS, gZ, sA, sZ, sS]; rfl) | rfl) (q3 : Region.wanted o3 (yielded ops a2.tmps) = true := by rfl) (h3 : (execOp a2.eval o3).run P w = .ok (.value v3) w := by go_simp)
    (h : wpList P ops Q rest a3 w) : wpList P ops Q (o1 :: o2 :: o3 :: rest) a w := wz1 v1 p1 q1 h1 (wz2 v2 v3 p2 q2 h2 p3 q3 h3 h)
theorem wz4 {a1 a2 a3 a4 : Act} {o1 o2 o3 o4 : Oper} (v1 v2 v3 v4 : Value)
    (p1 : a.put o1.dst v1 = a1 := by first | (simp only [pT, iV, Act.put, gA, gS, gZ, sA, sZ, sS]; rfl) | rfl) (q1 : Region.wanted o1 (yielded ops a.tmps) = true := by rfl) (h1 : (execOp a.eval o1).run P w = .ok (.value v1) w := by go_simp)
    (p2 : a1.put o2.dst v2 = a2 := by first | (simp only [pT, iV, Act.put, gA, gS, gZ, sA, sZ, sS]; rfl) | rfl) (q2 : Region.wanted o2 (yielded ops a1.tmps) = true := by rfl) (h2 : (execOp a1.eval o2).run P w = .ok (.value v2) w := by go_simp)
    (p3 : a2.put o3.dst v3 = a3 := by first | (simp only [pT, iV, Act.put, gA, gS, gZ, sA, sZ, sS]; rfl) | rfl) (q3 : Region.wanted o3 (yielded ops a2.tmps) = true := by rfl) (h3 : (execOp a2.eval o3).run P w = .ok (.value v3) w := by go_simp)
    (p4 : a3.put o4.dst v4 = a4 := by first | (simp only [pT, iV, Act.put, gA, gS, gZ, sA, sZ, sS]; rfl) | rfl) (q4 : Region.wanted o4 (yielded ops a3.tmps) = true := by rfl) (h4 : (execOp a3.eval o4).run P w = .ok (.value v4) w := by go_simp)
    (h : wpList P ops Q rest a4 w) : wpList P ops Q (o1 :: o2 :: o3 :: o4 :: rest) a w := wz1 v1 p1 q1 h1 (wz3 v2 v3 v4 p2 q2 h2 p3 q3 h3 p4 q4 h4 h)
theorem wz5 {a1 a2 a3 a4 a5 : Act} {o1 o2 o3 o4 o5 : Oper} (v1 v2 v3 v4 v5 : Value)
    (p1 : a.put o1.dst v1 = a1 := by first | (simp only [pT, iV, Act.put, gA, gS, gZ, sA, sZ, sS]; rfl) | rfl) (q1 : Region.wanted o1 (yielded ops a.tmps) = true := by rfl) (h1 : (execOp a.eval o1).run P w = .ok (.value v1) w := by go_simp)
    (p2 : a1.put o2.dst v2 = a2 := by first | (simp only [pT, iV, Act.put, gA, gS, gZ, sA, sZ, sS]; rfl) | rfl) (q2 : Region.wanted o2 (yielded ops a1.tmps) = true := by rfl) (h2 : (execOp a1.eval o2).run P w = .ok (.value v2) w := by go_simp)
    (p3 : a2.put o3.dst v3 = a3 := by first | (simp only [pT, iV, Act.put, gA, gS, gZ, sA, sZ, sS]; rfl) | rfl) (q3 : Region.wanted o3 (yielded ops a2.tmps) = true := by rfl) (h3 : (execOp a2.eval o3).run P w = .ok (.value v3) w := by go_simp)
    (p4 : a3.put o4.dst v4 = a4 := by first | (simp only [pT, iV, Act.put, gA, gS, gZ, sA, sZ, sS]; rfl) | rfl) (q4 : Region.wanted o4 (yielded ops a3.tmps) = true := by rfl) (h4 : (execOp a3.eval o4).run P w = .ok (.value v4) w := by go_simp)
    (p5 : a4.put o5.dst v5 = a5 := by first | (simp only [pT, iV, Act.put, gA, gS, gZ, sA, sZ, sS]; rfl) | rfl) (q5 : Region.wanted o5 (yielded ops a4.tmps) = true := by rfl) (h5 : (execOp a4.eval o5).run P w = .ok (.value v5) w := by go_simp)
    (h : wpList P ops Q rest a5 w) : wpList P ops Q (o1 :: o2 :: o3 :: o4 :: o5 :: rest) a w := wz1 v1 p1 q1 h1 (wz4 v2 v3 v4 v5 p2 q2 h2 p3 q3 h3 p4 q4 h4 p5 q5 h5 h)
theorem wz6 {a1 a2 a3 a4 a5 a6 : Act} {o1 o2 o3 o4 o5 o6 : Oper} (v1 v2 v3 v4 v5 v6 : Value)
    (p1 : a.put o1.dst v1 = a1 := by first | (simp only [pT, iV, Act.put, gA, gS, gZ, sA, sZ, sS]; rfl) | rfl) (q1 : Region.wanted o1 (yielded ops a.tmps) = true := by rfl) (h1 : (execOp a.eval o1).run P w = .ok (.value v1) w := by go_simp)
    (p2 : a1.put o2.dst v2 = a2 := by first | (simp only [pT, iV, Act.put, gA, gS, gZ, sA, sZ, sS]; rfl) | rfl) (q2 : Region.wanted o2 (yielded ops a1.tmps) = true := by rfl) (h2 : (execOp a1.eval o2).run P w = .ok (.value v2) w := by go_simp)
    (p3 : a2.put o3.dst v3 = a3 := by first | (simp only [pT, iV, Act.put, gA, gS, gZ, sA, sZ, sS]; rfl) | rfl) (q3 : Region.wanted o3 (yielded ops a2.tmps) = true := by rfl) (h3 : (execOp a2.eval o3).run P w = .ok (.value v3) w := by go_simp)
    (p4 : a3.put o4.dst v4 = a4 := by first | (simp only [pT, iV, Act.put, gA, gS, gZ, sA, sZ, sS]; rfl) | rfl) (q4 : Region.wanted o4 (yielded ops a3.tmps) = true := by rfl) (h4 : (execOp a3.eval o4).run P w = .ok (.value v4) w := by go_simp)
    (p5 : a4.put o5.dst v5 = a5 := by first | (simp only [pT, iV, Act.put, gA, gS, gZ, sA, sZ, sS]; rfl) | rfl) (q5 : Region.wanted o5 (yielded ops a4.tmps) = true := by rfl) (h5 : (execOp a4.eval o5).run P w = .ok (.value v5) w := by go_simp)
    (p6 : a5.put o6.dst v6 = a6 := by first | (simp only [pT, iV, Act.put, gA, gS, gZ, sA, sZ, sS]; rfl) | rfl) (q6 : Region.wanted o6 (yielded ops a5.tmps) = true := by rfl) (h6 : (execOp a5.eval o6).run P w = .ok (.value v6) w := by go_simp)
    (h : wpList P ops Q rest a6 w) : wpList P ops Q (o1 :: o2 :: o3 :: o4 :: o5 :: o6 :: rest) a w := wz1 v1 p1 q1 h1 (wz5 v2 v3 v4 v5 v6 p2 q2 h2 p3 q3 h3 p4 q4 h4 p5 q5 h5 p6 q6 h6 h)
theorem py {X X' : World → Prop} (hp : a = a' := by first | (simp only [pT, iV, Act.put, gA, gS, gZ, sA, sZ, sS]; rfl) | rfl) (hx : X = X' := by first | (simp only [List.cons_append, List.nil_append, List.set_cons_zero, List.set_cons_succ]; rfl) | rfl) (h : ∀ w', Hid (X' w') → wpList P ops Q rest a' w') : ∀ w', X w' → wpList P ops Q rest a w' := by
  subst hp hx
  exact fun w' k => h w' (Lib.hid k)
theorem pz {X X' : Nat → World → Prop} {N : Nat} {f f' : Nat → Act} (hp : f = f' := by (funext b; first | (simp only [pT, iV, Act.put, gA, gS, gZ, sA, sZ, sS]; rfl) | rfl)) (hx : X = X' := by first | (simp only [List.cons_append, List.nil_append, List.set_cons_zero, List.set_cons_succ]; rfl) | rfl) (h : ∀ b w', Hid (X' b w') → wpList P ops Q rest (f' b) w') : ∀ b w', b = N → X b w' → wpList P ops Q rest (f b) w' := by
  subst hp hx
  exact fun b w' _ k => h b w' (Lib.hid k)
/-- Ways through a piece of code meet again behind it. -/
theorem rjoin {c : Code} (T : Act → World → Prop) (h1 : ∀ Q' : Exit → Act → World → Prop, (∀ a w, T a w → Q' .normal a w) → c.wp P Q' a w) (h2 : ∀ a w, T a w → Q .normal a w) : c.wp P Q a w := h1 Q h2
theorem lz {id : Nat} {l : List Oper} (h : wpList P l.toArray Q l a w) : (Code.region id l.toArray false).wp P Q a w := wp_region_lit h
theorem nz (h : Q .normal a w) : wpList P ops Q [] a w := h
theorem kb_prt {w0 : World} {l : List (Nat × Array Value × TypeId)} {b : Nat} {cs arr : Array Value} {t : TypeId} {d : TypeDesc} (K : Kb w0 l w) (i : Nat) (e : l[i]? = some (b, cs, t)) (ty : TypeId) (x : Operand) (j : Nat) (ho : o.op = .load ty x) (hx : a.eval x = .pointer (some ⟨b, j, none⟩)) (hp : ∀ k v, arr.toList[k]? = some v → cs[j + k]? = some v)
    (hu : P.underlying ty = some d) (hd : d.isRow = true) (hi : (P.info? ty).map (·.size) = some arr.size) : (execOp a.eval o).run P w = .ok (.value (.agg arr)) w := by
  have q := kb_part (P := P) (a := a) K i e ty x j arr.toList ho hx hp hu hd (by simpa using hi)
  rwa [Array.toArray_toList] at q
end
end
section
open Go.RowKit
attribute [local irreducible] wpQuiet wpList
theorem wpList_made4 {P : Program} {ops : Array Oper} {Q : Exit → Act → World → Prop} {a : Act} {w w' : World} {rest : List Oper} {o : Oper} (v : Value) (hw : Region.wanted o (yielded ops a.tmps) = true)
 (hrun : (execOp a.eval o).run P w = .ok (.value v) w') (h : wpList P ops Q rest (a.put o.dst v) w') : wpList P ops Q (o :: rest) a w :=
 BigFrame.wpList_want hw fun K hK => by unfold Oper.wp; simp only [hrun]; exact hK _ _ h
theorem wpList_callx4 {P : Program} {ops : Array Oper} {Q : Exit → Act → World → Prop} {a : Act} {w : World} {rest : List Oper} {o : Oper} (f : FuncId) (args : Array Value) (R : Value → World → Prop) (hw : Region.wanted o (yielded ops a.tmps) = true)
 (hv : (execOp a.eval o).run P w = .ok (.enter f args) w) (hc : Calls P f args w fun e w' => ∃ v, e = .returned v ∧ R v w') (h : ∀ v w', R v w' → wpList P ops Q rest (a.put o.dst v) w') : wpList P ops Q (o :: rest) a w :=
 BigFrame.wpList_want hw fun K hK => by
  unfold Oper.wp
  simp only [hv, Oper.upon]
  exact hc.mono fun e w' ⟨v, he, hr⟩ => by subst he; exact hK _ _ (h v w' hr)
def st1P (x : Po) : Go.Proofs.YtebnpblincgjlaaDoor.St := ⟨⟨0, 0, 0, 0, 0, 0⟩, [x], [], [], [], fun _ => 0, 0⟩
theorem built_s1 (x : Po) (a : Option Addr) (n m : Nat) : Tryd.prog.built 40 [(1, .slice a n m)] = some (stA (st1P x) (.slice a n m) (.slice none 0 0) (.slice none 0 0) (.slice none 0 0)) := by kernel_rfl
theorem one_el {w : World} {B : Nat} {x : Po} {v : Value} (h : Own w B 73 21 poC v [x]) : ∃ q m, v = .slice (some ⟨q, 0, none⟩) 1 m ∧ 1 ≤ m ∧ m ≤ maxLen ∧ w.rangeAt q 0 (poC x) := by
 rcases h.cases with ⟨-, h2⟩ | ⟨q, m, rfl, -, hq, hm, hx⟩
 ·
  cases h2
 ·
  refine ⟨q, m, rfl, hm, hx, fun j u hj => ?_⟩
  have hl : j < (poC x).length := (List.getElem?_eq_some_iff.1 hj).1
  have := Own.at (enc := poC) po_len h 0 j x rfl (by rw [← po_len x]; exact hl)
  simp only [Nat.zero_mul, Nat.zero_add] at this ⊢
  rw [this]
  exact hj
set_option maxRecDepth 100000 in
set_option maxHeartbeats 8000000 in
theorem icold_any (x : Po) (w : World) : Calls Tryd.prog 55 #[poV x] w fun e w' => e = .returned (poV (coldP x)) ∧ Below w.heap.size w w' := by
 have K := Lib.hid (Kb.nil w)
 go_enter Tryd.func55, Tryd.ntmps55
 go_upto_region 0 with fail
 refine wp_region_lit ?_
 refine kb_box K.out 73 (.tmp 0) (poA x) rfl rfl (by rfl) (pz (h := ?_))
 intro b1 w1 K1
 refine kb_alloc K1.out 73 (nil21) rfl z50 (by rfl) (pz (h := ?_))
 intro b2 w2 K2
 refine wpList_nil ?_
 go_upto_region 1 with fail
 refine lz (wz1 (.agg (poA x)) (h1 := by exact kb_all K2.out 0 rfl 73 _ rfl rfl Tryd.underlying73 rfl (size50)) (h := ?_))
 refine wpList_made4 (.slice (some ⟨w2.heap.size, 0, none⟩) 1 1) (by rfl) (run_bs1 32 (.tmp 3) rfl (poV x) _ rfl (one_po x w2)) ?_
 (try simp only [Act.put, gA, gS, gZ, sA, sZ, sS])
 obtain ⟨g, hg⟩ : ∃ g, g = w2.heap.size := ⟨_, rfl⟩
 have OO : OwS (w2.alloc (.cells (poA x) 73)) 0 (st1P x) (.slice (some ⟨g, 0, none⟩) 1 1) (.slice none 0 0) (.slice none 0 0) (.slice none 0 0) := ⟨by have h := Own.lit (e := 73) (base := 0) w2 (Nat.zero_le _) po_len [x] (by show 1 ≤ maxLen; decide); rw [← hg] at h; exact h, Own.nil _ _ _ _ _, Own.nil _ _ _ _ _, Own.nil _ _ _ _ _, by unfold st1P; simp⟩
 have K3 := Lib.hid (K2.out.next ((Below.refl _ _).alloc (Nat.le_refl _) (.cells (poA x) 73)))
 rw [← hg]
 generalize w2.alloc (.cells (poA x) 73) = w3 at OO K3 ⊢
 refine wz1 (stV (st1P x) (.slice (some ⟨g, 0, none⟩) 1 1) (.slice none 0 0) (.slice none 0 0) (.slice none 0 0)) (h1 := by exact run_build_of 40 [(1, .tmp 4)] rfl _ _ rfl (built_s1 x _ _ _)) (h := ?_)
 refine wpList_callx4 71 #[stV (st1P x) (.slice (some ⟨g, 0, none⟩) 1 1) (.slice none 0 0) (.slice none 0 0) (.slice none 0 0)] (fun v w' => ∃ u1 u2 u3, v = stV (coldS (st1P x)) u1 u2 u3 (.slice none 0 0) ∧ Own w' w3.heap.size 73 21 poC u1 [coldP x] ∧ Below w3.heap.size w3 w') (by rfl) (by go_simp) ((cold_st OO).mono fun e w' ⟨u1, u2, u3, q1, q2, q3⟩ => ⟨_, q1, u1, u2, u3, rfl, q2.o1, q3⟩) ?_
 rintro v w4 ⟨u1, u2, u3, rfl, oo, hb⟩
 (try simp only [Act.put, gA, gS, gZ, sA, sZ, sS])
 obtain ⟨q, m, rfl, hqm, hmx, hr⟩ := one_el oo
 have K4 := Lib.hid (K3.out.next hb)
 refine wz3 (.slice (some ⟨q, 0, none⟩) 1 m) (pT q 0) (poV (coldP x)) (h1 := by go_simp; try rfl) (h3 := by exact run_loadRange 73 _ rfl q 0 rfl (poA (coldP x)) _ hr Tryd.underlying73 rfl (po_info _)) (h := ?_)
 refine kb_row K4.out 1 rfl 73 _ _ (poA (coldP x)) rfl rfl rfl rfl (po_info _) (by rfl) (po_all _) (py (h := ?_))
 intro w5 K5
 refine wpList_nil ?_
 go_wp2_with fail
 refine bodyPost_ret (v := .agg (poA (coldP x))) (results_cell_row Tryd.results55 _ _ b2 73 (poA (coldP x)) (0, 0) _ rfl (K5.out.at (i := 1) rfl) Tryd.underlying73 rfl (po_info _)) rfl ?_
 exact ⟨rfl, K5.out.below⟩
def switchP (x : Po) (up ad : Bool) (dl : Int) : Po := if (up && ad) = true then (if onP x = true then { x with p6 := ad, p7 := up } else ⟨x.p0, x.p1, x.p2, x.p3, x.p4, x.p5, ad, up, true, false, 0, 0, 0, 0, 0, 0, 0, 0, 0, dl, 0⟩) else ⟨x.p0, x.p1, x.p2, x.p3, x.p4, x.p5, ad, up, false, false, 0, 0, 0, 0, 0, 0, 0, 0, 0, 0, 0⟩
theorem cold_of (x : Po) (q : Po) (h : coldP x = q) (w : World) : Calls Tryd.prog 55 #[poV x] w fun e w' => e = .returned (poV q) ∧ Below w.heap.size w w' := h ▸ icold_any x w
end
section
/- Layer 16, by the evaluator: Switch. -/
open Go.RowKit
open Ev
set_option maxRecDepth 100000
theorem on_is2 (x : Po) {b : Bool} (h : onP x = b) (w : World) : Calls Tryd.prog 20 #[poV x] w fun e w' => e = .returned (.bool b) ∧ Below w.heap.size w w' := h ▸ on_any x w
theorem ev_switch (x : Po) (up ad : Bool) (c : Cf) (w : World) : Calls Tryd.prog 30 #[poV x, .bool up, .bool ad, cfV c] w fun e w' => e = .returned (poV (switchP x up ad c.p3)) ∧ Below w.heap.size w w' := by
  unfold switchP
  have on2 : ∀ b, (up && ad) = b → ∀ W, Calls Tryd.prog 20 #[poV { x with p6 := ad, p7 := up }] W fun e w' => e = .returned (.bool b) ∧ Below W.heap.size W w' := fun b h W => by
    have q := on_any { x with p6 := ad, p7 := up } W
    rw [show onP { x with p6 := ad, p7 := up } = b from h] at q
    exact q
  cases h1 : (up && ad)
  · exact ev_call [.c _ _ _ (on_any x), .c _ _ _ (on2 _ h1), Yes, .c _ _ _ (cold_of { x with p6 := ad, p7 := up } _ rfl)] (fun _ _ => by kernel_rfl) w
  · cases h2 : onP x
    · exact ev_call [.c _ _ _ (on_is2 x h2), .c _ _ _ (on2 _ h1), No, No, .c _ _ _ (cold_of { x with p6 := ad, p7 := up } _ rfl)] (fun _ _ => by kernel_rfl) w
    · exact ev_call [.c _ _ _ (on_is2 x h2), .c _ _ _ (on2 _ h1), No, Yes] (fun _ _ => by kernel_rfl) w
end
section
/- Layer 18, by the evaluator: Switch. -/
open Go.RowKit
open Ev
set_option maxRecDepth 100000
theorem okP_zero {x : Po} (h : okP x) (y : Po) (h3 : y.p3 = x.p3) (h13 : y.p13 = 0) (h14 : y.p14 = 0) (h15 : y.p15 = 0) (h16 : y.p16 = 0) : okP y :=
 ⟨by rw [h13]; decide, by rw [h14]; decide, by rw [h15]; decide, by rw [h16]; decide, by rw [h3]; exact h.k⟩
theorem okP_switch {x : Po} {up ad : Bool} {d : Int} (h : okP x) : okP (switchP x up ad d) := by
 unfold switchP
 split
 ·
  split
  ·
   exact ⟨h.r, h.c, h.b, h.p, h.k⟩
  ·
   exact okP_zero h _ rfl rfl rfl rfl rfl
 ·
  exact okP_zero h _ rfl rfl rfl rfl rfl
def switchC (s : Go.Proofs.YtebnpblincgjlaaDoor.St) (p : Int) (up ad : Bool) : TS := if 1 ≤ p ∧ p ≤ (s.po.length : Int) then (match s.po[(p - 1).toNat]? with
  | some x => chooseM (if onP x = true ∧ onP (switchP x up ad s.cf.p3) = false then ((⟨s, [], []⟩ : TS).setPo (s.po.set (p - 1).toNat (switchP x up ad s.cf.p3))).flush p else (⟨s, [], []⟩ : TS).setPo (s.po.set (p - 1).toNat (switchP x up ad s.cf.p3)))
  | none => ⟨s, [], []⟩) else ⟨s, [], []⟩
theorem switch_fun (s : Go.Proofs.YtebnpblincgjlaaDoor.St) (x : H4) (h : Few s) (hn : s.po.length ≤ 16) (hid : 0 ≤ s.cf.p0) (hok : ∀ (k : Nat) (x : Po), s.po[k]? = some x → okP x) (p : Int) (up ad : Bool) : Fun Tryd.prog 14 [stH s x, iv p, .bool up, .bool ad] (bdR :: stN s x) (H4 × H2) (evAns s (switchC s p up ad)) (evOwn s x (switchC s p up ad)) := by
  have nm : (s.po.length + 1) * s.po.length ≤ 17 * 16 := Nat.mul_le_mul (by omega) hn
  unfold switchC
  cases hB : (decide (1 ≤ p) && decide (p ≤ (s.po.length : Int)))
  · rw [if_neg (by intro z; rw [decide_eq_true z.1, decide_eq_true z.2] at hB; cases hB)]
    exact ev_fun (fun R fin => [oN (begin_make s x h) 1 fun y => [.a 0 _ _ (fun _ _ _ _ K => act_own (X := bdO 73 21 poC (.slice y.1.1 s.po.length y.1.2) s.po) K), .c _ _ _ (has_any s x p), .b (!_) _ (nb hB), oM (end_meth s y ⟨s, [], []⟩ ((none, 0), (none, 0))) 3 0 fun _ => [fin (y, ((none, 0), (none, 0)))]]]) (fun R β w => by kernel_rfl)
  · have hb : 1 ≤ p ∧ p ≤ (s.po.length : Int) := by simpa using hB
    rw [if_pos hb]
    obtain ⟨i, hi⟩ : ∃ i : Nat, p = (i : Int) + 1 := ⟨(p - 1).toNat, by omega⟩
    subst hi
    rw [show ((i : Int) + 1 - 1).toNat = i by omega]
    have hlt : i < s.po.length := by omega
    have er : iv (IntKind.i64.wrap ((i : Int) + 1 - 1)) = iv (i : Nat) := by rw [show ((i : Int) + 1 - 1) = (i : Int) by omega, wrap_nat (by omega)]
    obtain ⟨z, hz⟩ : ∃ z, s.po[i]? = some z := ⟨_, List.getElem?_eq_getElem hlt⟩
    rw [hz]
    dsimp only
    have hsw := ev_switch z up ad s.cf
    have okX := okP_switch (up := up) (ad := ad) (d := s.cf.p3) (hok i z hz)
    obtain ⟨X, hX⟩ : ∃ X, switchP z up ad s.cf.p3 = X := ⟨_, rfl⟩
    rw [hX] at hsw okX ⊢
    have hlen : (s.po.set i X).length = s.po.length := List.length_set
    have hokX : ∀ (k : Nat) (w : Po), (s.po.set i X)[k]? = some w → okP w := fun k w hw => by
      rcases set_cases hw with ⟨-, e⟩ | e
      · rw [e]; exact okX
      · exact hok k w e
    cases ho : onP z
    · rw [if_neg (by simp)]
      have ha := fun (y : H4) (w : H2) => choose_acts (t := ((⟨s, [], []⟩ : TS).setPo (s.po.set i X))) (by show (s.po.set i X).length ≤ _; rw [hlen]; omega) (by show 0 + ((s.po.set i X).length + 1) * (s.po.set i X).length ≤ _; rw [hlen]; omega) (by show 0 + (s.po.set i X).length ≤ _; rw [hlen]; omega) hid hokX (hpN s y) w hlen
      obtain ⟨t5, h5⟩ : ∃ t5, chooseM ((⟨s, [], []⟩ : TS).setPo (s.po.set i X)) = t5 := ⟨_, rfl⟩
      rw [h5] at ha ⊢
      exact ev_fun (fun R fin => [oN (begin_make s x h) 1 fun y => [.a 0 _ _ (fun _ _ _ _ K => act_own (X := bdO 73 21 poC (.slice y.1.1 s.po.length y.1.2) s.po) K), .c _ _ _ (has_any s x ((i : Int) + 1)), .b (!_) _ (nb hB), .r _ _ er, oJx poE 0 y.1.1 s.po.length y.1.2 hlt rfl, oJd poE 0 y.1.1 s.po.length y.1.2 hz rfl, .c _ _ _ hsw, .r _ _ er, oJx poE 0 y.1.1 s.po.length y.1.2 hlt rfl, oJt poE 0 y.1.1 s.po.length y.1.2 X hlt rfl rfl, .c _ _ _ (on_any z), .b _ _ ho, No, oM (ha y ((none, 0), (none, 0))) 3 0 fun z4 => [oM (end_meth s y t5 z4) 3 0 fun _ => [fin (y, z4)]]]]) (fun R β w => by kernel_rfl)
    · cases hx : onP X
      · rw [if_pos ⟨rfl, rfl⟩]
        have ha := fun (y : H4) (w : H2) => choose_acts (t := (((⟨s, [], []⟩ : TS).setPo (s.po.set i X)).flush ((i : Int) + 1))) (by show (s.po.set i X).length ≤ _; rw [hlen]; omega) (by show 1 + ((s.po.set i X).length + 1) * (s.po.set i X).length ≤ _; rw [hlen]; omega) (by show 0 + (s.po.set i X).length ≤ _; rw [hlen]; omega) hid hokX (hpN s y) w hlen
        obtain ⟨t5, h5⟩ : ∃ t5, chooseM (((⟨s, [], []⟩ : TS).setPo (s.po.set i X)).flush ((i : Int) + 1)) = t5 := ⟨_, rfl⟩
        rw [h5] at ha ⊢
        exact ev_fun (fun R fin => [oN (begin_make s x h) 1 fun y => [.a 0 _ _ (fun _ _ _ _ K => act_own (X := bdO 73 21 poC (.slice y.1.1 s.po.length y.1.2) s.po) K), .c _ _ _ (has_any s x ((i : Int) + 1)), .b (!_) _ (nb hB), .r _ _ er, oJx poE 0 y.1.1 s.po.length y.1.2 hlt rfl, oJd poE 0 y.1.1 s.po.length y.1.2 hz rfl, .c _ _ _ hsw, .r _ _ er, oJx poE 0 y.1.1 s.po.length y.1.2 hlt rfl, oJt poE 0 y.1.1 s.po.length y.1.2 X hlt rfl rfl, .c _ _ _ (on_any z), .b _ _ ho, .c _ _ _ (on_any X), .b (!_) _ (nb hx), oAp inE 45 2 6 #[false, false] (.slice none 0 0) [] [(i : Int) + 1] 1 rfl (by decide) fun y2 => [oM (ha y ((none, 0), y2)) 3 0 fun z4 => [oM (end_meth s y t5 z4) 3 0 fun _ => [fin (y, z4)]]]]]) (fun R β w => by kernel_rfl)
      · rw [if_neg (by simp)]
        have ha := fun (y : H4) (w : H2) => choose_acts (t := ((⟨s, [], []⟩ : TS).setPo (s.po.set i X))) (by show (s.po.set i X).length ≤ _; rw [hlen]; omega) (by show 0 + ((s.po.set i X).length + 1) * (s.po.set i X).length ≤ _; rw [hlen]; omega) (by show 0 + (s.po.set i X).length ≤ _; rw [hlen]; omega) hid hokX (hpN s y) w hlen
        obtain ⟨t5, h5⟩ : ∃ t5, chooseM ((⟨s, [], []⟩ : TS).setPo (s.po.set i X)) = t5 := ⟨_, rfl⟩
        rw [h5] at ha ⊢
        exact ev_fun (fun R fin => [oN (begin_make s x h) 1 fun y => [.a 0 _ _ (fun _ _ _ _ K => act_own (X := bdO 73 21 poC (.slice y.1.1 s.po.length y.1.2) s.po) K), .c _ _ _ (has_any s x ((i : Int) + 1)), .b (!_) _ (nb hB), .r _ _ er, oJx poE 0 y.1.1 s.po.length y.1.2 hlt rfl, oJd poE 0 y.1.1 s.po.length y.1.2 hz rfl, .c _ _ _ hsw, .r _ _ er, oJx poE 0 y.1.1 s.po.length y.1.2 hlt rfl, oJt poE 0 y.1.1 s.po.length y.1.2 X hlt rfl rfl, .c _ _ _ (on_any z), .b _ _ ho, .c _ _ _ (on_any X), .b (!_) _ (nb hx), oM (ha y ((none, 0), (none, 0))) 3 0 fun z4 => [oM (end_meth s y t5 z4) 3 0 fun _ => [fin (y, z4)]]]]) (fun R β w => by kernel_rfl)
end
end Go.Proofs.YtebnpblincgjlaaDoor
