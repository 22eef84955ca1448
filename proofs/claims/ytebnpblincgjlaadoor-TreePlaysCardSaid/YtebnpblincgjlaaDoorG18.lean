import Derived.Test.YtebnpblincgjlaaDoorG17
set_option linter.unusedSimpArgs false
set_option linter.unusedVariables false
namespace Go.Proofs.YtebnpblincgjlaaDoor
section
/- Layer 18, by the evaluator: Start. -/
open Go.RowKit
open Ev
set_option maxRecDepth 100000
def begF (dl : Int) (_ : Nat) (x : Po) : Po := switchP (switchP x false x.p6 dl) x.p7 x.p6 dl
def startT (s : Go.Proofs.YtebnpblincgjlaaDoor.St) (k : Nat) : TS := mapTo (begF s.cf.p3) ((⟨s, [], []⟩ : TS).setBeat 0) k
def startM (s : Go.Proofs.YtebnpblincgjlaaDoor.St) : TS := chooseM (startT s s.po.length)
def zer25 : Array Value := #[.int .u64 0, .int .i64 0, .int .i64 0, .int .i64 0, .int .i64 0, .int .i64 0, .slice none 0 0, .slice none 0 0, .slice none 0 0, .slice none 0 0, .int .u32 0, .int .u32 0, .int .u32 0, .int .u32 0, .int .u32 0, .int .u32 0, .int .u32 0, .int .u32 0, .int .u32 0, .int .u32 0, .int .u32 0, .int .u32 0, .int .u32 0, .int .u32 0, .int .i64 0]
def zer2 : Array Value := #[.slice none 0 0, .slice none 0 0]
section
variable (s : Go.Proofs.YtebnpblincgjlaaDoor.St) (x y : H4) (R : Bd)
def s9S (T : TS) (k : Nat) : Ev.St := ⟨sp 59 [(1, .p 0 0), (2, .p 1 0), (3, .p 2 0), (4, .p 3 0), (18, .v (.slice y.1.1 s.po.length y.1.2)), (19, .v (iv (s.po.length : Nat))), (20, .v (iv (k : Nat)))],
  [((stH s x).cells, 40), (zer25, 40), (zer2, 49), (acA T (hpN s y) ((none, 0), (none, 0)), 112)], evOwn s x T (y, ((none, 0), (none, 0))) ++ [R]⟩
theorem start_loop (hn : s.po.length ≤ 1000) : TY Tryd.prog 0 (.loop (loopN Tryd.prog 9 0)) (s9S s x y R (startT s 0) 0) Unit (.exit 0) (fun _ => s9S s x y R (startT s s.po.length) s.po.length) := by
  refine T_loop (I := {k : Nat // k ≤ s.po.length}) (fun j => s9S s x y R (startT s j.1) j.1) (fun j => s.po.length - j.1) (by simp) _ (fun ⟨k, hk⟩ => ?_) ⟨0, Nat.zero_le _⟩
  have f := mapTo_is (begF s.cf.p3) ((⟨s, [], []⟩ : TS).setBeat 0) k
  have e1 : startT s (k + 1) = mapStep (begF s.cf.p3) (startT s k) k := rfl
  by_cases h : k < s.po.length
  · have f : (startT s k).s.po.length = s.po.length ∧ (startT s k).s.cf = s.cf := ⟨f.1, f.2.1⟩
    obtain ⟨T, hT⟩ : ∃ T, startT s k = T := ⟨_, rfl⟩
    rw [hT] at e1 f
    obtain ⟨z, hz⟩ : ∃ z, T.s.po[k]? = some z := ⟨_, List.getElem?_eq_getElem (by omega)⟩
    have d : decide ((k : Int) < (s.po.length : Int)) = true := by simp; omega
    have hlt : s.po.length - (k + 1) < s.po.length - k := by omega
    rw [mapStep_some hz, show begF s.cf.p3 k z = switchP (switchP z false z.p6 T.s.cf.p3) z.p7 z.p6 T.s.cf.p3 by rw [f.2]; rfl] at e1
    have c1 := ev_switch z false z.p6 T.s.cf
    obtain ⟨W, hW⟩ : ∃ W, switchP z false z.p6 T.s.cf.p3 = W := ⟨_, rfl⟩
    rw [hW] at c1 e1
    have c2 := ev_switch W z.p7 z.p6 T.s.cf
    obtain ⟨X, hX⟩ : ∃ X, switchP W z.p7 z.p6 T.s.cf.p3 = X := ⟨_, rfl⟩
    rw [hX] at c2 e1
    refine step_at (s9S s x y R T k) (by rw [← hT]) ?_ ?_ (Nat.zero_le _)
    exact fun go out => [.b _ _ d, oJx poE 0 y.1.1 s.po.length y.1.2 h f.1, oJd poE 0 y.1.1 s.po.length y.1.2 hz f.1, .c _ _ _ c1, .c _ _ _ c2, oJx poE 0 y.1.1 s.po.length y.1.2 h f.1, oJt poE 0 y.1.1 s.po.length y.1.2 X h f.1 rfl, .r _ _ (wrap_next h (by omega)), go ⟨k + 1, h⟩ hlt (s9S s x y R (T.setPo (T.s.po.set k X)) (k + 1)) (by show _ = s9S s x y R (startT s (k + 1)) _; rw [e1])]
    intro _ _; kernel_rfl
  · obtain rfl : k = s.po.length := by omega
    refine step_at _ rfl ?_ ?_ (Nat.zero_le _)
    exact fun go out => [.b _ _ (show decide ((s.po.length : Int) < (s.po.length : Int)) = false by simp), out () _ rfl]
    intro _ _; kernel_rfl
end
theorem start_fun (s : Go.Proofs.YtebnpblincgjlaaDoor.St) (x : H4) (h : Few s) (hn : s.po.length ≤ 16) (hid : 0 ≤ s.cf.p0) (hok : ∀ (k : Nat) (z : Po), (startT s s.po.length).s.po[k]? = some z → okP z) : Fun Tryd.prog 9 [stH s x] (bdR :: stN s x) (H4 × H2) (evAns s (startM s)) (evOwn s x (startM s)) := by
  have nm : (s.po.length + 1) * s.po.length ≤ 17 * 16 := Nat.mul_le_mul (by omega) hn
  have f := mapTo_is (begF s.cf.p3) ((⟨s, [], []⟩ : TS).setBeat 0) s.po.length
  have f : (startT s s.po.length).s.po.length = s.po.length ∧ (startT s s.po.length).s.cf = s.cf ∧ (startT s s.po.length).fl = [] ∧ (startT s s.po.length).told = [] := f
  have hL := fun y R => start_loop s x y R (by omega)
  unfold startM
  obtain ⟨t1, h1⟩ : ∃ t1, startT s s.po.length = t1 := ⟨_, rfl⟩
  rw [h1] at f hok ⊢
  have hL := fun y R => by have q := hL y R; rw [h1] at q; exact q
  have ha := fun y : H4 => choose_acts (t := t1) (by omega) (by rw [f.1, f.2.2.1]; show 0 + _ ≤ _; omega) (by rw [f.1, f.2.2.2]; show 0 + _ ≤ _; omega) (by rw [f.2.1]; exact hid) hok (hpN s y) ((none, 0), (none, 0)) f.1
  obtain ⟨t5, h5⟩ : ∃ t5, chooseM t1 = t5 := ⟨_, rfl⟩
  rw [h5] at ha ⊢
  exact ev_fun (fun R fin => [oN (begin_make s x h) 1 fun y => [.a 0 _ _ (fun _ _ _ _ K => act_own (X := bdO 73 21 poC (.slice y.1.1 s.po.length y.1.2) s.po) K), .l _ _ _ _ _ _ (hL y R) fun _ => [oM (ha y) 3 0 fun z4 => [oM (end_meth s y t5 z4) 3 0 fun _ => [fin (y, z4)]]]]]) (fun R β w => by kernel_rfl)
end
end Go.Proofs.YtebnpblincgjlaaDoor
section
/- Ends that are told in another form. -/
namespace Go.Proofs.YtebnpblincgjlaaDoor.Ev
open Go.RowKit
section
variable {P : Program} {f : FuncId} {args : List Value} {cs : Array Value} {ty : TypeId} {A : Bds} {Y : Type} {v : Y → Value} {cs' : Y → Array Value} {A' : Y → Bds}
def finOE (ty : TypeId) (Y : Type) (v : Y → Value) (cs' : Y → Array Value) (A' : Y → Bds) (R : Bd) (y : Y) (u : Value) (cs : Array Value) (A0 : Bds) (e1 : u = v y) (e2 : cs = cs' y) (e3 : A0 = A' y) : Ora P :=
  .fin (methG ty Y v cs' A' R) u [(cs, ty)] (A0 ++ [R]) ⟨y, e1, by rw [e2], by rw [e3]⟩
theorem ev_methE (r : Bd → ((y : Y) → (u : Value) → (cs : Array Value) → (A0 : Bds) → u = v y → cs = cs' y → A0 = A' y → Ora P) → List (Ora P)) (h : ∀ R β w, (evFn P 1 f (.p 0 0 :: args.map .v) [(cs, ty)] (A ++ [R]) (r R (finOE ty Y v cs' A' R)) (fun rs => finK P 1 rs (methG ty Y v cs' A' R)) β w).1 = (evFn P 1 f (.p 0 0 :: args.map .v) [(cs, ty)] (A ++ [R]) (r R (finOE ty Y v cs' A' R)) (fun rs => finK P 1 rs (methG ty Y v cs' A' R)) β w).2) : Meth P f args cs ty A Y v cs' A' :=
  ev_meth (fun R _ => r R (finOE ty Y v cs' A' R)) h
def finFE (Y : Type) (v : Y → Value) (A' : Y → Bds) (R : Bd) (y : Y) (u : Value) (A0 : Bds) (e1 : u = v y) (e3 : A0 = A' y) : Ora P :=
  .fin (funG Y v A' R) u [] (A0 ++ [R]) ⟨y, e1, rfl, by rw [e3]⟩
theorem ev_funE (r : Bd → ((y : Y) → (u : Value) → (A0 : Bds) → u = v y → A0 = A' y → Ora P) → List (Ora P)) (h : ∀ R β w, (evFn P 0 f (args.map .v) [] (A ++ [R]) (r R (finFE Y v A' R)) (fun rs => finK P 0 rs (funG Y v A' R)) β w).1 = (evFn P 0 f (args.map .v) [] (A ++ [R]) (r R (finFE Y v A' R)) (fun rs => finK P 0 rs (funG Y v A' R)) β w).2) : Fun P f args A Y v A' :=
  ev_fun (fun R _ => r R (finFE Y v A' R)) h
end
end Go.Proofs.YtebnpblincgjlaaDoor.Ev
end
namespace Go.Proofs.YtebnpblincgjlaaDoor
section
/- Layer 18's law: the twin's lead, vec, with, tell, changed. -/
open Go.RowKit
open Ev
set_option maxRecDepth 100000
theorem ev_acts {T : TypeId} {f : FuncId} {args : List Value} {t t' : TS} {c : Hp} {y : H2} (r : Bd → ((y : H2) → (t1 : TS) → t1 = t' → Ora Tryd.prog) → List (Ora Tryd.prog))
    (h : ∀ R β w, (evFn Tryd.prog 1 f (.p 0 0 :: args.map .v) [(acA t c y, T)] (acO t c y ++ [R]) (r R (fun y t1 e => finOE T H2 (fun _ => .tuple #[]) (acA t' c) (acO t' c) R y (.tuple #[]) (acA t1 c y) (acO t1 c y) rfl (by rw [e]) (by rw [e]))) (fun rs => finK Tryd.prog 1 rs (methG T H2 (fun _ => .tuple #[]) (acA t' c) (acO t' c) R)) β w).1 = (evFn Tryd.prog 1 f (.p 0 0 :: args.map .v) [(acA t c y, T)] (acO t c y ++ [R]) (r R (fun y t1 e => finOE T H2 (fun _ => .tuple #[]) (acA t' c) (acO t' c) R y (.tuple #[]) (acA t1 c y) (acO t1 c y) rfl (by rw [e]) (by rw [e]))) (fun rs => finK Tryd.prog 1 rs (methG T H2 (fun _ => .tuple #[]) (acA t' c) (acO t' c) R)) β w).2) :
    Meth Tryd.prog f args (acA t c y) T (acO t c y) H2 (fun _ => .tuple #[]) (acA t' c) (acO t' c) :=
  ev_meth (fun R _ => r R (fun y t1 e => finOE T H2 (fun _ => .tuple #[]) (acA t' c) (acO t' c) R y (.tuple #[]) (acA t1 c y) (acO t1 c y) rfl (by rw [e]) (by rw [e]))) h
theorem ev_asks {T : TypeId} {f : FuncId} {args : List Value} {t : TS} {v : Value} {c : Hp} {y : H2} (r : Bd → ((u : Value) → u = v → Ora Tryd.prog) → List (Ora Tryd.prog))
    (h : ∀ R β w, (evFn Tryd.prog 1 f (.p 0 0 :: args.map .v) [(acA t c y, T)] (acO t c y ++ [R]) (r R (fun u e => finOE T Unit (fun _ => v) (fun _ => acA t c y) (fun _ => acO t c y) R () u (acA t c y) (acO t c y) e rfl rfl)) (fun rs => finK Tryd.prog 1 rs (methG T Unit (fun _ => v) (fun _ => acA t c y) (fun _ => acO t c y) R)) β w).1 = (evFn Tryd.prog 1 f (.p 0 0 :: args.map .v) [(acA t c y, T)] (acO t c y ++ [R]) (r R (fun u e => finOE T Unit (fun _ => v) (fun _ => acA t c y) (fun _ => acO t c y) R () u (acA t c y) (acO t c y) e rfl rfl)) (fun rs => finK Tryd.prog 1 rs (methG T Unit (fun _ => v) (fun _ => acA t c y) (fun _ => acO t c y) R)) β w).2) :
    Meth Tryd.prog f args (acA t c y) T (acO t c y) Unit (fun _ => v) (fun _ => acA t c y) (fun _ => acO t c y) :=
  ev_meth (fun R _ => r R (fun u e => finOE T Unit (fun _ => v) (fun _ => acA t c y) (fun _ => acO t c y) R () u (acA t c y) (acO t c y) e rfl rfl)) h
def leadV (x : Po) : Value := .tuple #[.bool (innerB x), .bool (innerB x && linkB x)]
theorem lead_asks {t : TS} {i : Nat} {x : Po} (hx : t.s.po[i]? = some x) : Asks 47 44 [iv (i : Nat)] t (leadV x) := by
  intro c y hl
  obtain ⟨a, n, m, v2, v3, v4⟩ := c
  have hl : t.s.po.length = n := hl
  have hk := (List.getElem?_eq_some_iff.1 hx).1
  exact ev_asks (fun R fin =>
    let no := fun (h : innerB x = false) => [No, fin (.tuple #[.bool false, .bool false]) (by simp [leadV, h])]
    let tl : Ora Tryd.prog → innerB x = true → (q : Bool) → q = true → List (Ora Tryd.prog) := fun f h q hq => [.sp (decide (x.p10 = 3)) (fun r => [f, .b _ _ r, fin (.tuple #[.bool q, .bool true]) (by simp [leadV, h, linkB, of_decide_eq_true r, hq])]) (fun r => [f, .b _ _ r, fin (.tuple #[.bool q, .bool (decide (x.p10 = 4))]) (by simp [leadV, h, linkB, of_decide_eq_false r, hq])])]
    [oJx poE 0 a n m (hl ▸ hk) hl, oJd poE 0 a n m hx hl, .sp x.p7
      (fun h7 => [.sp x.p6
        (fun h6 => [.sp x.p5
          (fun h5 => [.sp x.p8
            (fun h8 => [.b _ _ h7, .b _ _ h6, .b _ _ h5, .b (!_) _ (nb h8), fin (.tuple #[.bool (!x.p8), .bool false]) (by simp [leadV, innerB, onP, edgeB, h7, h6, h5, h8])])
            (fun h8 => [.b _ _ h7, .b _ _ h6, .b _ _ h5] ++ tl (.b (!_) _ (nb h8)) (by simp [innerB, onP, edgeB, h7, h6, h5, h8]) (!x.p8) (by simp [h8]))])
          (fun h5 => [.b _ _ h7, .b _ _ h6, .b _ _ h5] ++ tl Yes (by simp [innerB, onP, edgeB, h7, h6, h5]) true rfl)])
        (fun h6 => [.b _ _ h7, .b _ _ h6] ++ no (by simp [innerB, onP, h7, h6]))])
      (fun h7 => [.b _ _ h7, No] ++ no (by simp [innerB, onP, h7]))]) (fun R β w => by kernel_rfl)
def vecI (q : Pd) : Array Value := #[.int .u64 q.p8, .int .u32 q.p9, .int .u64 q.p10, .int .u16 q.p11]
theorem vec_any (q : Pd) (w : World) : Calls Tryd.prog 45 #[pdV q] w fun e w' => e = .returned (.agg (vecI q)) ∧ Below w.heap.size w w' := ev_call [] (fun _ _ => by kernel_rfl) w
def withQ (a b c d : Int) : Pd := ⟨2, false, false, false, false, false, false, 0, a, b, c, d, 0, 0, 0, 0⟩
theorem with_any (a b c d : Int) (w : World) : Calls Tryd.prog 41 #[.agg #[.int .u64 a, .int .u32 b, .int .u64 c, .int .u16 d]] w fun e w' => e = .returned (pdV (withQ a b c d)) ∧ Below w.heap.size w w' := ev_call [] (fun _ _ => by kernel_rfl) w
end
section
/- Layer 18's law: the twin's changed. -/
open Go.RowKit
open Ev
set_option maxRecDepth 100000
section
variable (T : TS) (g n m : Nat) (v2 v3 v4 : Value) (y : H2) (R : Bd) (x0 : Po) (i k : Nat)
abbrev hpg : Hp := ⟨some ⟨g, 0, none⟩, n, m, v2, v3, v4⟩
def twS : Ev.St := ⟨sp 87 [(0, .p 0 0), (1, .v (iv (i : Nat))), (5, .v (iv (k : Nat)))], [(acA T (hpg g n m v2 v3 v4) y, 47), (poA x0, 73)], acO T (hpg g n m v2 v3 v4) y ++ [R]⟩
end
theorem chgStep_some {h : Int} {i k : Nat} {t : TS} {x : Po} (hx : t.s.po[k]? = some x) : chgStep h i t k = if k = i ∨ innerB x = false then t else (if linkB x = true then t.setPo (t.s.po.set k (chP x h)) else t).flush ((k : Int) + 1) := by
  unfold chgStep
  rw [hx]
section
variable (t : TS) (g n m : Nat) (v2 v3 v4 : Value) (y0 : H2) (R : Bd) (x0 : Po) (i : Nat)
theorem tw_loop (h0 : Int) (hh : twoH t = h0) (hl : t.s.po.length = n) (hn : n ≤ 1000) (hf : t.fl.length + n ≤ 1900) : TY Tryd.prog 1 (.loop (loopN Tryd.prog 39 0)) (twS t g n m v2 v3 v4 y0 R x0 i 0) H2 (.exit 0) (fun y => twS (chgTo h0 i t n) g n m v2 v3 v4 y R x0 i n) := by
  subst hh
  refine T_loop (I := {k : Nat // k ≤ n} × H2) (fun j => twS (chgTo (twoH t) i t j.1.1) g n m v2 v3 v4 j.2 R x0 i j.1.1) (fun j => n - j.1.1) (by simp) _ (fun ⟨⟨k, hk⟩, y⟩ => ?_) (⟨0, Nat.zero_le _⟩, y0)
  have f := chgTo_is (twoH t) i t k
  have ht := twoH_cf f.2.1
  have e1 : chgTo (twoH t) i t (k + 1) = chgStep (twoH t) i (chgTo (twoH t) i t k) k := rfl
  obtain ⟨T, hT⟩ : ∃ T, chgTo (twoH t) i t k = T := ⟨_, rfl⟩
  rw [hT] at f ht e1
  have hlT : T.s.po.length = n := f.1.trans hl
  refine step_at (twS T g n m v2 v3 v4 y R x0 i k) (by rw [← hT]) ?_ ?_ (by show 1 ≤ 2; decide)
  exact fun go out => [.sp (decide ((k : Int) < (n : Int)))
    (fun d => 
      have h : k < n := by simpa using d
      have hlt : n - (k + 1) < n - k := by omega
      [.b _ _ d, .so _ T.s.po[k]? (fun hx => [.no (by simp at hx; omega)]) fun x hx =>
      let nx (T' : TS) (y : H2) (e : chgTo (twoH t) i t (k + 1) = T') : List (Ora Tryd.prog) := [.r _ _ (wrap_next h (by omega)), go (⟨k + 1, h⟩, y) hlt (twS T' g n m v2 v3 v4 y R x0 i (k + 1)) (by rw [← e])]
      let fl (T' : TS) (e : chgTo (twoH t) i t (k + 1) = T'.flush ((k : Int) + 1)) (hT' : T'.fl = T.fl) : List (Ora Tryd.prog) := [.r _ _ (wrap_i h (by omega)),
            oAp inE 45 2 2 #[false, false] (.slice y.2.1 T'.fl.length y.2.2) T'.fl [(k : Int) + 1] (T'.flush ((k : Int) + 1)).fl.length (by show _ = (T'.fl ++ [_]).length; simp) (by show (T'.fl ++ [_]).length ≤ _; rw [hT']; simp; omega) fun y2 => nx (T'.flush ((k : Int) + 1)) (y.1, y2) e]
      [oM (lead_asks hx (hpg g n m v2 v3 v4) y hlT) 0 0 fun _ => [.sp (decide ((k : Int) = (i : Int)))
        (fun hi => [.b _ _ hi, Yes] ++ nx T y (by rw [e1, chgStep_some hx, if_pos (.inl (by have := of_decide_eq_true hi; omega))]))
        (fun hi => [.sp (innerB x)
          (fun hin => [.b _ _ hi, .b (!_) _ (nb hin), .sp (innerB x && linkB x)
            (fun hk2 => [.b _ _ hk2, .k, oIx poE g n m h, oSf poE 0 g n m 3 20 (iv (twoH T)) (chP x (twoH T)) hx hlT (by decide) rfl (by kernel_rfl) rfl rfl rfl] ++ fl (T.setPo (T.s.po.set k (chP x (twoH T)))) (by rw [e1, chgStep_some hx, if_neg (by have := of_decide_eq_false hi; simp [hin]; omega), if_pos (by simpa [hin] using hk2), ht]) rfl)
            (fun hk2 => [.b _ _ hk2] ++ fl T (by rw [e1, chgStep_some hx, if_neg (by have := of_decide_eq_false hi; simp [hin]; omega), if_neg (by simpa [hin] using hk2)]) rfl)])
          (fun hin => [.b _ _ hi, .b (!_) _ (nb hin)] ++ nx T y (by rw [e1, chgStep_some hx, if_pos (.inr hin)]))])]]])
    (fun d => [.b _ _ d, out y (twS T g n m v2 v3 v4 y R x0 i k) (by obtain rfl : k = n := (by simp at d; omega); rw [hT])])]
  intro _ _; kernel_rfl
end
theorem tw_changed {t : TS} {i : Nat} {x : Po} (hx : t.s.po[i]? = some x) (hn : t.s.po.length ≤ 1000) (hf : t.fl.length + t.s.po.length ≤ 1900) : Acts 47 39 [iv (i : Nat)] t (changedM t i) := by
  intro c y hl
  obtain ⟨a, n, m, v2, v3, v4⟩ := c
  have hl : t.s.po.length = n := hl
  have hk := (List.getElem?_eq_some_iff.1 hx).1
  refine Meth_own (k := i) 0 rfl hk fun ⟨g, hg⟩ => ?_
  subst hg
  have hlen : (t.s.po.set i (chP x (twoH t))).length = t.s.po.length := List.length_set
  have e0 : changedM t i = if edgeB x = true then t else chgTo (twoH t) i (t.setPo (t.s.po.set i (chP x (twoH t)))) t.s.po.length := by unfold changedM; rw [hx]
  have st : edgeB x = false → changedM t i = chgTo (twoH t) i (t.setPo (t.s.po.set i (chP x (twoH t)))) n := fun h => by rw [e0, if_neg (by simp [h]), hl]
  obtain ⟨C, hC⟩ : ∃ C, changedM t i = C := ⟨_, rfl⟩
  rw [hC] at st e0 ⊢
  exact ev_acts (fun R fin =>
    let go : edgeB x = false → List (Ora Tryd.prog) := fun h => [.k, oIx poE g n m (hl ▸ hk), oSf poE 0 g n m 3 20 (iv (twoH t)) (chP x (twoH t)) hx hl (by decide) rfl (by kernel_rfl) rfl rfl rfl, .l _ _ _ _ _ _ (tw_loop (t.setPo (t.s.po.set i (chP x (twoH t)))) g n m v2 v3 v4 y R x i (twoH t) rfl (hlen.trans hl) (by omega) (by show t.fl.length + n ≤ _; omega)) fun y2 => [fin y2 _ (by rw [st h])]]
    [oIx poE g n m (hl ▸ hk), oLd poE 0 g n m hx hl, .sp x.p5
      (fun h5 => [.b _ _ h5, .sp x.p8 (fun h8 => [.b _ _ h8, fin y t (by rw [e0, if_pos (by simp [edgeB, h5, h8])])]) (fun h8 => [.b _ _ h8] ++ go (by simp [edgeB, h5, h8]))])
      (fun h5 => [.b _ _ h5, No] ++ go (by simp [edgeB, h5]))]) (fun R β w => by kernel_rfl)
end
section
/- Layer 18's law: the twin's tell. -/
open Go.RowKit
open Ev
set_option maxRecDepth 100000
def jm : Nat → Int
  | 0 => -1
  | k + 1 => k
theorem wrap_down {j n : Nat} (h : j ≤ n) (hn : n ≤ 100000) : iv (IntKind.i64.wrap ((j : Nat) - 1)) = iv (jm j) := by
  cases j with
  | zero => rfl
  | succ k => 
    show iv (IntKind.i64.wrap (((k + 1 : Nat) : Int) - 1)) = iv (k : Nat)
    rw [show (((k + 1 : Nat) : Int) - 1) = (k : Nat) by omega, wrap_nat (by omega)]
def agF (l : List Po) (j : Nat) : Int := IntKind.u16.wrap (ageL (l.drop j))
theorem agF_end {l : List Po} {j : Nat} (h : l.length ≤ j) : agF l j = 0 := by
  unfold agF
  rw [List.drop_eq_nil_of_le h]
  rfl
theorem agF_step {l : List Po} {k : Nat} {x : Po} (h : l[k]? = some x) : agF l k = if x.p10 = 3 then IntKind.u16.wrap (IntKind.i64.wrap (x.p17 + 1)) else agF l (k + 1) := by
  obtain ⟨hk, e⟩ := List.getElem?_eq_some_iff.1 h
  unfold agF
  rw [List.drop_eq_getElem_cons hk, e]
  unfold ageL
  rw [List.find?_cons]
  by_cases c : x.p10 = 3
  · simp [c]
  · simp [c]
def twQ (x : Po) (v a b c : Int) : Pd := ⟨2, decide (0 < x.p20), !decide (x.p11 = 2), decide (0 < x.p11), decide (x.p11 = 2), false, false, 3, x.p13, x.p14, x.p15, x.p16, v, a, b, c⟩
section
variable (t : TS) (g n m : Nat) (v2 v3 v4 : Value) (y : H2) (R : Bd) (x0 : Po) (i : Nat)
def ttS (j : Int) (v : Int) : Ev.St := ⟨sp 105 [(0, .p 0 0), (1, .v (iv (i : Nat))), (4, .p 1 0), (5, .p 2 0), (6, .v (iv j))], [(acA t (hpg g n m v2 v3 v4) y, 47), (poA x0, 73), (pdA (twQ x0 v 0 0 0), 61)], acO t (hpg g n m v2 v3 v4) y ++ [R]⟩
theorem tt_loop (hl : t.s.po.length = n) (hn : n ≤ 1000) : TY Tryd.prog 1 (.loop (loopN Tryd.prog 40 0)) (ttS t g n m v2 v3 v4 y R x0 i (jm n) 0) Unit (.exit 0) (fun _ => ttS t g n m v2 v3 v4 y R x0 i (-1) (agF t.s.po 0)) := by
  refine T_loop (I := {p : Nat × Int // p.1 ≤ n ∧ p.2 = agF t.s.po p.1}) (fun p => ttS t g n m v2 v3 v4 y R x0 i (jm p.1.1) p.1.2) (fun p => p.1.1) (by simp) _ (fun ⟨⟨j, v⟩, hj, hv⟩ => ?_) ⟨(n, 0), Nat.le_refl _, (agF_end (by omega)).symm⟩
  have hj : j ≤ n := hj
  have hv : v = agF t.s.po j := hv
  cases j with
  | zero =>
    refine step_at (ttS t g n m v2 v3 v4 y R x0 i (-1) v) rfl ?_ ?_ (by show 1 ≤ 3; decide)
    exact fun go out => [No, out () (ttS t g n m v2 v3 v4 y R x0 i (-1) v) (by rw [hv])]
    intro _ _; kernel_rfl
  | succ k =>
    have hk : k < n := hj
    obtain ⟨x, hx⟩ : ∃ x, t.s.po[k]? = some x := ⟨_, List.getElem?_eq_getElem (by omega)⟩
    have e := agF_step hx
    refine step_at (ttS t g n m v2 v3 v4 y R x0 i (k : Nat) v) rfl ?_ ?_ (by show 1 ≤ 3; decide)
    exact fun go out =>
      let nx (u : Int) (h : u = agF t.s.po k) : List (Ora Tryd.prog) := [.r _ _ (wrap_down (j := k) (n := n) (by omega) (by omega)), go ⟨(k, u), by show k ≤ n; omega, h⟩ (Nat.lt_succ_self k) (ttS t g n m v2 v3 v4 y R x0 i (jm k) u) rfl]
      [.b _ _ (show decide ((k : Int) ≥ 0) = true by simp), oIx poE g n m hk, oLf poE 0 g n m 3 10 (iv x.p10) hx hl (by decide) rfl plain3, .sp (decide (x.p10 = 3))
        (fun h => [.b _ _ h, oIx poE g n m hk, oLf poE 0 g n m 3 17 (iv x.p17) hx hl (by decide) rfl plain3, .k, .k] ++ nx (IntKind.u16.wrap (IntKind.i64.wrap (x.p17 + 1))) (by rw [e, if_pos (of_decide_eq_true h)]))
        (fun h => [.b _ _ h] ++ nx v (by rw [e, if_neg (of_decide_eq_false h), hv]))]
    intro _ _; kernel_rfl
end
theorem tw_tellQ {t : TS} {x : Po} (hr : x.p10 = 4) (hs : 0 ≤ x.p11 ∧ x.p11 ≤ 2) : sentQ x (tellQ t x) = twQ x (agF t.s.po 0) (IntKind.u16.wrap t.s.cf.p1) (IntKind.u16.wrap t.s.cf.p2) (IntKind.u16.wrap t.s.cf.p3) := by
  unfold sentQ tellQ twQ agF roleT
  rw [hr]
  have : x.p11 = 0 ∨ x.p11 = 1 ∨ x.p11 = 2 := by omega
  rcases this with h | h | h <;> simp [h]
theorem tw_tell {t : TS} {i : Nat} {x : Po} (hx : t.s.po[i]? = some x) (hr : x.p10 = 4) (hs : 0 ≤ x.p11 ∧ x.p11 ≤ 2) (hn : t.s.po.length ≤ 1000) (ht : t.told.length ≤ 1900) : Acts 47 40 [iv (i : Nat)] t (tellM t i) := by
  intro c y hl
  obtain ⟨a, n, m, v2, v3, v4⟩ := c
  have hl : t.s.po.length = n := hl
  have hk := (List.getElem?_eq_some_iff.1 hx).1
  refine Meth_own (k := i) 0 rfl hk fun ⟨g, hg⟩ => ?_
  subst hg
  have e0 : tellM t i = t.tell (told1 ((i : Int) + 1) (twQ x (agF t.s.po 0) (IntKind.u16.wrap t.s.cf.p1) (IntKind.u16.wrap t.s.cf.p2) (IntKind.u16.wrap t.s.cf.p3))) := by unfold tellM sendM; rw [hx]; dsimp only; rw [tw_tellQ hr hs]
  rw [e0]
  obtain ⟨v, hv⟩ : ∃ v, agF t.s.po 0 = v := ⟨_, rfl⟩
  have hL := fun R => tt_loop t g n m v2 v3 v4 y R x i hl (by omega)
  rw [hv] at hL ⊢
  exact ev_acts (fun R fin => [oIx poE g n m (hl ▸ hk), oLd poE 0 g n m hx hl, .c _ _ _ (with_any x.p13 x.p14 x.p15 x.p16), .r _ _ (wrap_down (j := n) (n := n) (Nat.le_refl _) (by omega)), .l _ _ _ _ _ _ (hL R) fun _ => [.k, .k, .k, .r _ _ (wrap_i (hl ▸ hk) (by omega)),
    oAp tdE 44 1 3 #[false, false] (.slice y.1.1 t.told.length y.1.2) t.told [told1 ((i : Int) + 1) (twQ x v (IntKind.u16.wrap t.s.cf.p1) (IntKind.u16.wrap t.s.cf.p2) (IntKind.u16.wrap t.s.cf.p3))] (t.tell (told1 ((i : Int) + 1) (twQ x v (IntKind.u16.wrap t.s.cf.p1) (IntKind.u16.wrap t.s.cf.p2) (IntKind.u16.wrap t.s.cf.p3)))).told.length (by show _ = (t.told ++ [_]).length; simp) (by show (t.told ++ [_]).length ≤ _; simp; omega) fun y1 => [fin (y1, y.2) _ rfl]]]) (fun R β w => by kernel_rfl)
end
end Go.Proofs.YtebnpblincgjlaaDoor
section
/- Arrays that are owned. -/
namespace Go.Proofs.YtebnpblincgjlaaDoor.Ev
open Go.RowKit
section
variable {P : Program}
/-- A variable that is made is owned. -/
def oNw (ty : TypeId) (cs : Array Value) (hz : ∀ w, ∃ z, (zeroValue ty).run P w = .ok z w ∧ z.cells = cs) (rest : Nat → List (Ora P)) : Ora P :=
  .e Nat 0 (.s fun _ => do pure (.value (← Instr.alloc ty true (.tuple #[])))) [] 0 [] (fun b => [bdB b cs ty]) (fun b => pB b)
    (fun w0 F R β w hlo K => by
      show stepS P _ _ w
      unfold stepS
      obtain ⟨z, h1, h2⟩ := hz w
      simp only [Instr.alloc, Sem.run_bind, h1, Result.andThen_ok, newVar, Sem.run_pure]
      refine ⟨w.heap.size, rfl, ?_⟩
      rw [h2]
      exact sep_out (Kf.fresh K ((Below.refl _ _).alloc (Nat.le_refl _) _) (X := bdB w.heap.size cs ty) (Blk.new _ _ _) (fun k hk => Nat.le_of_eq (Eq.symm hk)) rfl)) rest
/-- A place in an array that is owned. -/
def oBx {b : Nat} (ty e : TypeId) (n : Nat) {k : Nat} (hk : k < n) (h1 : P.underlying ty = some (.array (P.arrayLen ty) (P.elem ty))) (hn : P.arrayLen ty = n) (he : P.elem ty = e) (h2 : ∀ w, (sizeOf e).run P w = .ok 1 w) : Ora P :=
  .x true (.s fun _ => do pure (.value (← Instr.indexAt ty (.pointer (some ⟨b, 0, none⟩)) (.int .i64 (k : Nat))))) 0 [] [] (pB b k)
    (fun w0 F R β w K => by
      show stepS _ _ _ w
      unfold stepS
      simp only [Sem.run_bind, Sem.run_pure, Result.andThen_ok, run_indexAt_array w ty _ _ _ h1, hn, he]
      rw [if_pos (by omega)]
      simp only [h2, Result.andThen_ok]
      refine ⟨?_, K⟩
      simp [Addr.add]
      try omega)
/-- A cell of a block that is owned is set. -/
def oBs {b : Nat} {cs cs2 : Array Value} {ty : TypeId} (p : Nat) (t2 : TypeId) (j : Nat) (u : Value) (hj : j < cs.size) (hi : (P.info? t2).map (·.size) = some 1) (hc : u.cells = #[u]) (h1 : u.oneCell' = true) (h2 : cs.setIfInBounds j u = cs2) : Ora P :=
  .x false (.s fun _ => do (Instr.storeAt t2 (.pointer (some ⟨b, j, none⟩)) u); pure .skip) p [bdB b cs ty] [bdB b cs2 ty] undef
    (fun w0 F R β w K => by
      subst h2
      show stepS P _ _ w
      unfold stepS
      have h : Blk w b cs ty := K.one
      have ht : w.there b j u.cells.size := h.thereN j _ (by rw [hc]; show j + 1 ≤ _; omega)
      have e2 := run_storeVar_any (P := P) w b j t2 u ht (by rw [hc]; exact hi) (by rw [hc]; simp [h1])
      simp only [Sem.run_bind, Sem.run_pure, Result.andThen_ok, Instr.storeAt, Instr.sureAddr, e2, hc]
      refine ⟨trivial, ?_⟩
      have hb := Blk.setCells [u] j cs w h
      have hm := Mv.setCells b [u] j w
      exact Kf.chg (A' := sepL [bdB b (cs.setIfInBounds j u) ty]) K hm (fun k hk => .inl (.inl hk)) ⟨hb, trivial, fun _ _ h => h⟩ (fun k hk => .inl hk) (Nat.le_refl _))
end
section
variable {α : Type} {P : Program} {t e : TypeId} {size : Nat} {enc : α → List Value} {val : α → Value}
/-- A part of an element is read. -/
def oLr (E : ElV P t e size enc val) (p : Nat) (g n m : Nat) {l : List α} {k : Nat} (t2 : TypeId) (j : Nat) (us : List Value) {x : α} (hx : l[k]? = some x) (hn : l.length = n) (hd : rowT P t2 = true) (hs : (P.info? t2).map (·.size) = some us.length) (hj : j + us.length ≤ size) (hc : ∀ i u, us[i]? = some u → (enc x)[j + i]? = some u) : Ora P :=
  .x true (.s fun _ => do pure (.value (← Instr.loadAt t2 (.pointer (some ⟨g, k * size + j, none⟩))))) p [bdO e size enc (.slice (some ⟨g, 0, none⟩) n m) l] [bdO e size enc (.slice (some ⟨g, 0, none⟩) n m) l] (.agg us.toArray)
    (fun w0 F R β w K => by
      subst hn
      show stepS P _ _ w
      unfold stepS
      have h : Own w 0 e size enc (.slice (some ⟨g, 0, none⟩) l.length m) l := K.one
      unfold rowT at hd
      split at hd
      · next d hd2 =>
        have hr : w.rangeAt g (k * size + j) us := fun i u hu => by
          have hi := (List.getElem?_eq_some_iff.1 hu).1
          have q := h.at E.len k (j + i) x hx (by omega)
          rw [hc i u hu] at q
          rw [← q, Nat.add_assoc]
        have e2 := run_loadVar_mid w g (k * size + j) t2 us d hr hd2 hd hs
        simp only [Instr.loadAt, Instr.sureAddr, Sem.run_bind, Sem.run_pure, Result.andThen_ok, e2]
        exact ⟨trivial, K⟩
      · cases hd)
end
def bA (l : List Bool) : Array Value := (l.map Value.bool).toArray
def flB (f : Nat → Bool) (k : Nat) : List Bool := (List.range 16).map fun j => decide (j < k) && f j
theorem flB_len (f : Nat → Bool) (k : Nat) : (flB f k).length = 16 := by simp [flB]
theorem bA_size (l : List Bool) : (bA l).size = l.length := by simp [bA]
theorem flB_set (f : Nat → Bool) (k : Nat) (hk : k < 16) : (bA (flB f k)).setIfInBounds k (.bool (f k)) = bA (flB f (k + 1)) := by
  unfold bA
  rw [List.setIfInBounds_toArray]
  congr 1
  apply List.ext_getElem?
  intro j
  rw [List.getElem?_set]
  simp only [flB, List.map_map, List.getElem?_map, List.length_map, List.length_range]
  by_cases c : k = j
  · subst c
    rw [if_pos rfl, if_pos hk, List.getElem?_range hk]
    simp
  · rw [if_neg c]
    by_cases d : j < 16
    · rw [List.getElem?_range d]
      simp only [Option.map_some, Function.comp, Option.some.injEq, Value.bool.injEq]
      have : decide (j < k) = decide (j < k + 1) := by rw [decide_eq_decide]; omega
      rw [this]
    · rw [List.getElem?_eq_none (by simpa using d)]
      rfl
theorem flB_get (f : Nat → Bool) (k j : Nat) (hj : j < k) (hk : k ≤ 16) : (bA (flB f k))[j]? = some (.bool (f j)) := by
  unfold bA flB
  rw [List.getElem?_toArray, List.map_map, List.getElem?_map, List.getElem?_range (by omega)]
  simp [hj]
end Go.Proofs.YtebnpblincgjlaaDoor.Ev
end
namespace Go.Proofs.YtebnpblincgjlaaDoor
section
/- Layer 18's law: the twin's choose. -/
open Go.RowKit
open Ev
set_option maxRecDepth 100000
/-- Done to each that is marked. -/
def forTo (Tf : TS → Nat → TS) (p : Nat → Bool) (t : TS) : Nat → TS
  | 0 => t
  | k + 1 => if p k = true then Tf (forTo Tf p t k) k else forTo Tf p t k
def pAt (p : Nat → Po → Bool) (l : List Po) (k : Nat) : Bool := match l[k]? with
  | some x => p k x
  | none => false
theorem foldT_app (Tf : TS → Nat → TS) (t : TS) (a b : List Nat) : ∀ k, k ≤ a.length → foldT Tf t (a ++ b) k = foldT Tf t a k
  | 0, _ => rfl
  | k + 1, h => by
    show (match (a ++ b)[k]? with | some i => _ | none => _ : TS) = (match a[k]? with | some i => _ | none => _ : TS)
    rw [foldT_app Tf t a b k (by omega), List.getElem?_append_left (by omega)]
theorem foldT_mark (Tf : TS → Nat → TS) (p : Nat → Po → Bool) (t : TS) (l : List Po) : ∀ k, foldT Tf t (markTo p l k) (markTo p l k).length = forTo Tf (pAt p l) t k
  | 0 => rfl
  | k + 1 => by
    have ih := foldT_mark Tf p t l k
    show foldT Tf t (match l[k]? with | some x => if p k x = true then markTo p l k ++ [k] else markTo p l k | none => markTo p l k) (match l[k]? with | some x => if p k x = true then markTo p l k ++ [k] else markTo p l k | none => markTo p l k).length = if (match l[k]? with | some x => p k x | none => false) = true then Tf (forTo Tf (pAt p l) t k) k else forTo Tf (pAt p l) t k
    cases h : l[k]? with
    | none => exact ih
    | some x =>
      dsimp only
      by_cases c : p k x = true
      · rw [if_pos c, if_pos c, List.length_append]
        show (match (markTo p l k ++ [k])[(markTo p l k).length]? with | some i => Tf (foldT Tf t (markTo p l k ++ [k]) (markTo p l k).length) i | none => foldT Tf t (markTo p l k ++ [k]) (markTo p l k).length : TS) = _
        rw [List.getElem?_concat_length, foldT_app Tf t _ _ _ (Nat.le_refl _), ih]
      · rw [if_neg c, if_neg c, ih]
theorem on_lit (x : Po) : onP x = (bif x.p7 then x.p6 else false) := by cases h : x.p7 <;> simp [onP, h]
section
variable (t : TS) (a : Option Addr) (n m : Nat) (v2 v3 v4 : Value) (y : H2) (R : Bd)
def u0S (h : Hd) (k : Nat) : Ev.St := ⟨sp 133 [(0, .p 0 0), (2, .v (.slice h.1 k h.2)), (3, .v (iv (k : Nat)))], [(acA t (Hp.mk a n m v2 v3 v4) y, 47)], bdO 76 8 rpC (.slice h.1 k h.2) (rpTo t.s.po k) :: acO t (Hp.mk a n m v2 v3 v4) y ++ [R]⟩
theorem u_ports (hl : t.s.po.length = n) (hn : n ≤ 1000) (hok : ∀ (k : Nat) (x : Po), t.s.po[k]? = some x → okP x) : TY Tryd.prog 1 (.loop (loopN Tryd.prog 33 0)) (u0S t a n m v2 v3 v4 y R (none, 0) 0) Hd (.exit 0) (fun h => u0S t a n m v2 v3 v4 y R h n) := by
  refine T_loop (I := {k : Nat // k ≤ n} × Hd) (fun j => u0S t a n m v2 v3 v4 y R j.2 j.1.1) (fun j => n - j.1.1) (by simp) _ (fun ⟨⟨k, hk⟩, h0⟩ => ?_) (⟨0, Nat.zero_le _⟩, (none, 0))
  have hrl := rpTo_len (l := t.s.po) k (by omega)
  refine step_at (u0S t a n m v2 v3 v4 y R h0 k) rfl ?_ ?_ (by show 1 ≤ 1; decide)
  exact fun go out => [.sp (decide ((k : Int) < (n : Int)))
    (fun d =>
      have h : k < n := by simpa using d
      [.b _ _ d, .so _ t.s.po[k]? (fun hx => [.no (by simp at hx; omega)]) fun x hx =>
        have hx2 : t.s.po[k]? = some (normP x) := by rw [hx]; exact congrArg some (okP_is (hok k x hx))
        let tl (q : List (Ora Tryd.prog)) (b : Bool) (hb : rpN x k = ⟨b, decide (x.p12 = 2), vecN x, x.p3.toNat, (idP x ((k : Int) + 1)).toNat⟩) : List (Ora Tryd.prog) := q ++ [.r _ _ (wrap_i h (by omega)), .c _ _ _ (id_nat (normP x) ((k : Int) + 1)),
          oAp rpE 67 0 2 #[false, false] (.slice h0.1 k h0.2) (rpTo t.s.po k) [⟨b, decide (x.p12 = 2), vecN x, x.p3.toNat, (idP x ((k : Int) + 1)).toNat⟩] (k + 1) (by rw [hrl]; rfl) (by omega) fun h1 => [.r _ _ (wrap_next h (by omega)), go (⟨k + 1, h⟩, h1) (by show n - (k + 1) < n - k; omega) ⟨sp 133 [(0, .p 0 0), (2, .v (.slice h1.1 (k + 1) h1.2)), (3, .v (iv ((k + 1 : Nat) : Int)))], [(acA t (Hp.mk a n m v2 v3 v4) y, 47)], bdO 76 8 rpC (.slice h1.1 (k + 1) h1.2) (rpTo t.s.po k ++ [⟨b, decide (x.p12 = 2), vecN x, x.p3.toNat, (idP x ((k : Int) + 1)).toNat⟩]) :: acO t (Hp.mk a n m v2 v3 v4) y ++ [R]⟩ (by unfold u0S; rw [rpTo_step hx, hb])]]
        [oJx poE 1 a n m h hl, oJd poE 1 a n m hx2 hl, .sp x.p7
          (fun h7 => tl [.b _ _ h7] x.p6 (by unfold rpN; rw [on_lit, h7]; rfl))
          (fun h7 => tl [.b _ _ h7] false (by unfold rpN; rw [on_lit, h7]; rfl))]])
    (fun d => [.b _ _ d, out h0 (u0S t a n m v2 v3 v4 y R h0 k) (by obtain rfl : k = n := (by simp at d; omega); rfl)])]
  intro _ _; kernel_rfl
end
end
section
/- Layer 18's law: the twin's choose, whole. -/
open Go.RowKit
open Ev
set_option maxRecDepth 100000
theorem u117 : Tryd.prog.underlying 117 = some (.array (Tryd.prog.arrayLen 117) (Tryd.prog.elem 117)) := by kernel_rfl
theorem l117 : Tryd.prog.arrayLen 117 = 16 := by kernel_rfl
theorem e117 : Tryd.prog.elem 117 = 4 := by kernel_rfl
theorem s4 : ∀ w, (sizeOf 4).run Tryd.prog w = .ok 1 w := fun w => by kernel_rfl
theorem z117 (f : Nat → Bool) : ∀ w, ∃ z, (zeroValue 117).run Tryd.prog w = .ok z w ∧ z.cells = bA (flB f 0) := fun w => ⟨.agg (bA (flB f 0)), by kernel_rfl, rfl⟩
def oBi {b k : Nat} (hk : k < 16) : Ora Tryd.prog := oBx (b := b) 117 4 16 hk u117 l117 e117 s4
def oBg {b k n : Nat} (p : Nat) (f : Nat → Bool) (hk : k < n) (hn : n ≤ 16) : Ora Tryd.prog := oBl (b := b) (cs := bA (flB f n)) (ty := 117) p 4 k (.bool (f k)) (flB_get f n k hk hn) plain4
def oBp {b k : Nat} (p : Nat) (f : Nat → Bool) (v : Bool) (hk : k < 16) (hv : f k = v) : Ora Tryd.prog := oBs (b := b) (cs := bA (flB f k)) (cs2 := bA (flB f (k + 1))) (ty := 117) p 4 k (.bool v) (by rw [bA_size, flB_len]; exact hk) size4 rfl rfl (by rw [← hv]; exact flB_set f k hk)
section
variable (t : TS) (a : Option Addr) (n m : Nat) (v2 v3 v4 : Value) (R : Bd) (b6 b7 Ro C : Nat) (P : Int) (h : Hd) (z : H2) (rp : List Rp) (rl : List Int) (tl : List Vc) (f6 f7 : Nat → Bool) 
def uO (k : Nat) (T : TS) (y : H2) : Bds := bdB b7 (bA (flB f7 k)) 117 :: bdB b6 (bA (flB f6 k)) 117 :: bdO 76 8 rpC (.slice h.1 n h.2) rp :: bdO 3 1 inC (.slice z.1.1 n z.1.2) rl :: bdO 71 4 vcC (.slice z.2.1 n z.2.2) tl :: (acO T (Hp.mk a n m v2 v3 v4) y ++ [R])
def u1S (e : List (Nat × SV)) (k : Nat) (T : TS) (y : H2) : Ev.St := ⟨sp 133 ([(0, .p 0 0), (2, .v (.slice h.1 n h.2)), (5, .p 1 0), (6, .v (pB b6)), (7, .v (pB b7))] ++ e),
  [(acA T (Hp.mk a n m v2 v3 v4) y, 47), (chA Ro C P (.slice z.1.1 n z.1.2) (.slice z.2.1 n z.2.2), 79)], uO a n m v2 v3 v4 R b6 b7 h z rp rl tl f6 f7 k T y⟩
theorem u_assume (y : H2) (hl : t.s.po.length = n) (hn : n ≤ 16) (hok : ∀ (k : Nat) (x : Po), t.s.po[k]? = some x → okP x) (hrl : rl = rolesOf t) (htl : tl = tellsOf t) (h6 : f6 = pAt (anewF t) t.s.po) (h7 : f7 = pAt (openF t) t.s.po) :
    TY Tryd.prog 1 (.loop (loopN Tryd.prog 33 1)) (u1S a n m v2 v3 v4 R b6 b7 Ro C P h z rp rl tl f6 f7 [(8, .v (iv (0 : Nat)))] 0 t y) Unit (.exit 2) (fun _ => u1S a n m v2 v3 v4 R b6 b7 Ro C P h z rp rl tl f6 f7 [(8, .v (iv (n : Nat)))] n (asT t n) y) := by
  refine T_loop (I := {k : Nat // k ≤ n}) (fun j => u1S a n m v2 v3 v4 R b6 b7 Ro C P h z rp rl tl f6 f7 [(8, .v (iv (j.1 : Nat)))] j.1 (asT t j.1) y) (fun j => n - j.1) (by simp) _ (fun ⟨k, hk⟩ => ?_) ⟨0, Nat.zero_le _⟩
  have f := mapTo_is (asF t) t k
  have e1 : asT t (k + 1) = mapStep (asF t) (asT t k) k := rfl
  obtain ⟨T, hT⟩ : ∃ T, asT t k = T := ⟨_, rfl⟩
  have hx0 : (asT t k).s.po[k]? = t.s.po[k]? := by unfold asT; rw [mapTo_get, if_neg (Nat.lt_irrefl _)]
  have f : T.s.po.length = t.s.po.length ∧ T.s.cf = t.s.cf := by rw [← hT]; exact ⟨f.1, f.2.1⟩
  rw [hT] at e1 hx0
  have hlT : T.s.po.length = n := f.1.trans hl
  by_cases hkn : k < n
  · obtain ⟨x, hx⟩ : ∃ x, T.s.po[k]? = some x := ⟨_, List.getElem?_eq_getElem (by omega)⟩
    have hxt : t.s.po[k]? = some x := by rw [← hx0]; exact hx
    have hx2 : T.s.po[k]? = some (poU x (vecN x)) := by rw [hx]; exact congrArg some (okP_poU (hok k x hxt))
    have hr1 : rl.length = n := by rw [hrl, rolesOf_len]; exact hl
    have ht1 : tl.length = n := by rw [htl, tellsOf_len]; exact hl
    obtain ⟨r, hr⟩ : ∃ r, rl[k]? = some r := ⟨_, List.getElem?_eq_getElem (by omega)⟩
    obtain ⟨v, hv⟩ : ∃ v, tl[k]? = some v := ⟨_, List.getElem?_eq_getElem (by omega)⟩
    have er : (rolesOf t).getD k 0 = r := by rw [← hrl, List.getD_eq_getElem?_getD, hr]; rfl
    have ev : (tellsOf t).getD k ⟨0, 0, 0, 0⟩ = v := by rw [← htl, List.getD_eq_getElem?_getD, hv]; rfl
    have d : decide ((k : Int) < (n : Int)) = true := by simp; omega
    rw [mapStep_some hx] at e1
    have ea : asF t k x = assumeP x (vecN x) r v T.s.cf.p3 := by unfold asF; rw [er, ev, f.2]
    rw [ea] at e1
    have hc := assume_any x (vecN x) r v T.s.cf
    obtain ⟨X, hX⟩ : ∃ X, assumeP x (vecN x) r v T.s.cf.p3 = X := ⟨_, rfl⟩
    have en : f6 k = assumeN x (vecN x) r v := by rw [h6]; unfold pAt; rw [hxt]; show anewF t k x = _; unfold anewF; rw [er, ev]
    have eo : f7 k = openedB x X := by rw [h7]; unfold pAt; rw [hxt]; show openF t k x = _; unfold openF; rw [ea, hX]
    rw [hX] at e1 hc
    obtain ⟨A, hA⟩ : ∃ A, assumeN x (vecN x) r v = A := ⟨_, rfl⟩
    obtain ⟨O, hO⟩ : ∃ O, openedB x X = O := ⟨_, rfl⟩
    rw [hA] at hc en
    rw [hO] at hc eo
    have h16 : k < 16 := by omega
    refine step_at (u1S a n m v2 v3 v4 R b6 b7 Ro C P h z rp rl tl f6 f7 [(8, .v (iv (k : Nat)))] k T y) (by rw [← hT]) ?_ ?_ (by show 1 ≤ 2; decide)
    exact fun go out => [.b _ _ d, oJx poE 5 a n m hkn hlT, oJd poE 5 a n m hx2 hlT, oJx inE 3 z.1.1 n z.1.2 hkn hr1, oJd inE 3 z.1.1 n z.1.2 hr hr1, oJx vcE 4 z.2.1 n z.2.2 hkn ht1, oJd vcE 4 z.2.1 n z.2.2 hv ht1, .c _ _ _ hc,
      oJx poE 5 a n m hkn hlT, oJt poE 5 a n m X hkn hlT rfl, oBi (b := b6) h16, oBp (b := b6) 1 f6 A h16 en, oBi (b := b7) h16, oBp (b := b7) 0 f7 O h16 eo, .r _ _ (wrap_next hkn (by omega)),
      go ⟨k + 1, hkn⟩ (by show n - (k + 1) < n - k; omega) (u1S a n m v2 v3 v4 R b6 b7 Ro C P h z rp rl tl f6 f7 [(8, .v (iv ((k + 1 : Nat) : Int)))] (k + 1) (T.setPo (T.s.po.set k X)) y) (by rw [e1])]
    intro _ _; kernel_rfl
  · obtain rfl : k = n := by omega
    refine step_at (u1S a k m v2 v3 v4 R b6 b7 Ro C P h z rp rl tl f6 f7 [(8, .v (iv (k : Nat)))] k T y) (by rw [← hT]) ?_ ?_ (by show 1 ≤ 2; decide)
    exact fun go out => [.b _ _ (show decide ((k : Int) < (k : Int)) = false by simp), out () (u1S a k m v2 v3 v4 R b6 b7 Ro C P h z rp rl tl f6 f7 [(8, .v (iv (k : Nat)))] k T y) (by rw [← hT])]
    intro _ _; kernel_rfl
theorem u_changed (t1 : TS) (y0 : H2) (hl : t1.s.po.length = n) (hn : n ≤ 16) (hf : t1.fl.length + n * n ≤ 1900) :
    TY Tryd.prog 1 (.loop (loopN Tryd.prog 33 2)) (u1S a n m v2 v3 v4 R b6 b7 Ro C P h z rp rl tl f6 f7 [(12, .v (iv (0 : Nat)))] n t1 y0) H2 (.exit 4) (fun y => u1S a n m v2 v3 v4 R b6 b7 Ro C P h z rp rl tl f6 f7 [(12, .v (iv (n : Nat)))] n (forTo changedM f7 t1 n) y) := by
  have key : ∀ k, k ≤ n → (forTo changedM f7 t1 k).s.po.length = n ∧ (forTo changedM f7 t1 k).fl.length ≤ t1.fl.length + k * n := by
    intro k
    induction k with
    | zero => intro _; exact ⟨hl, by simp [forTo]⟩
    | succ k ih =>
      intro hk
      obtain ⟨a, b⟩ := ih (by omega)
      show (if f7 k = true then changedM (forTo changedM f7 t1 k) k else forTo changedM f7 t1 k).s.po.length = n ∧ (if f7 k = true then changedM (forTo changedM f7 t1 k) k else forTo changedM f7 t1 k).fl.length ≤ _
      have hc := changedM_is (forTo changedM f7 t1 k) k
      have e : (k + 1) * n = k * n + n := Nat.succ_mul k n
      split
      · exact ⟨hc.1.trans a, by have := hc.2.2.1; omega⟩
      · exact ⟨a, by omega⟩
  refine T_loop (I := {k : Nat // k ≤ n} × H2) (fun j => u1S a n m v2 v3 v4 R b6 b7 Ro C P h z rp rl tl f6 f7 [(12, .v (iv (j.1.1 : Nat)))] n (forTo changedM f7 t1 j.1.1) j.2) (fun j => n - j.1.1) (by simp) _ (fun ⟨⟨k, hk⟩, y⟩ => ?_) (⟨0, Nat.zero_le _⟩, y0)
  have f := key k hk
  have e1 : forTo changedM f7 t1 (k + 1) = if f7 k = true then changedM (forTo changedM f7 t1 k) k else forTo changedM f7 t1 k := rfl
  obtain ⟨T, hT⟩ : ∃ T, forTo changedM f7 t1 k = T := ⟨_, rfl⟩
  rw [hT] at f e1
  have hnn : n * n ≤ 16 * n := Nat.mul_le_mul_right n hn
  have hfk : k < n → T.fl.length + T.s.po.length ≤ 1900 := fun q => by
    have a1 : (k + 1) * n = k * n + n := Nat.succ_mul k n
    have a2 : (k + 1) * n ≤ n * n := Nat.mul_le_mul_right n q
    omega
  refine step_at (u1S a n m v2 v3 v4 R b6 b7 Ro C P h z rp rl tl f6 f7 [(12, .v (iv (k : Nat)))] n T y) (by rw [← hT]) ?_ ?_ (by show 1 ≤ 2; decide)
  exact fun go out => [.sp (decide ((k : Int) < (n : Int)))
    (fun d =>
      have hkn : k < n := by simpa using d
      let nx (T' : TS) (y : H2) (e : forTo changedM f7 t1 (k + 1) = T') : List (Ora Tryd.prog) := [.r _ _ (wrap_next hkn (by omega)), go (⟨k + 1, hkn⟩, y) (by show n - (k + 1) < n - k; omega) (u1S a n m v2 v3 v4 R b6 b7 Ro C P h z rp rl tl f6 f7 [(12, .v (iv ((k + 1 : Nat) : Int)))] n T' y) (by rw [← e])]
      [.b _ _ d, .so _ T.s.po[k]? (fun hx => [.no (by simp at hx; omega)]) fun x hx => [oBi (b := b7) (k := k) (by omega), oBg (b := b7) 0 f7 hkn hn, .sp (f7 k)
        (fun c => [.b _ _ c, oM (tw_changed hx (by omega) (hfk hkn) (Hp.mk a n m v2 v3 v4) y f.1) 0 5 fun y1 => nx (changedM T k) y1 (by rw [e1, if_pos c])])
        (fun c => [.b _ _ c] ++ nx T y (by rw [e1, if_neg (by simp [c])]))]])
    (fun d => [.b _ _ d, out y (u1S a n m v2 v3 v4 R b6 b7 Ro C P h z rp rl tl f6 f7 [(12, .v (iv (k : Nat)))] n T y) (by obtain rfl : k = n := (by simp at d; omega); rw [← hT])])]
  intro _ _; kernel_rfl
end
end
end Go.Proofs.YtebnpblincgjlaaDoor
