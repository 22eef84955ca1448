import Derived.Test.YtebnpblincgjlaaDoorG19
import Derived.Test.YtebnpblincgjlaaDoorG9
import Derived.Test.YtebnpblincgjlaaDoorG12
import Derived.Test.YtebnpblincgjlaaDoorG11
import Derived.Deep.Slices
import Derived.OpenShut
import Derived.Below
import Derived.WalkKit
import Derived.ProofKit
import Derived.Test.YtebnpblincgjlaaDoorG18
set_option linter.unusedSimpArgs false
set_option linter.unusedVariables false
namespace Go.Proofs.YtebnpblincgjlaaDoor
section
/- Layer 18's law: the twin's hear: its loops. -/
open Go.RowKit
open Ev
set_option maxRecDepth 100000
section
variable (t : TS) (g n m : Nat) (v2 v3 v4 : Value) (y0 : H2) (R : Bd) (i : Nat) (q : Pd)
abbrev heF (e : List (Nat × SV)) : List (Nat × SV) := [(1, .v (iv ((i : Int) + 1))), (5, .p 1 0), (6, .v (iv (i : Nat)))] ++ e
abbrev heS (y : H2) (e : List (Nat × SV)) (e2 : Mem) (T : TS) : Ev.St := wS (some ⟨g, 0, none⟩) n m v2 v3 v4 y R 301 (heF i e) ((pdA q, 61) :: e2) [] T
theorem sprStep_some {h : Int} {i k : Nat} {t : TS} {x : Po} (hx : t.s.po[k]? = some x) : sprStep h i t k = if k = i ∨ innerB x = false ∨ linkB x = false then t else (t.setPo (t.s.po.set k (chP x h))).flush ((k : Int) + 1) := by
  unfold sprStep
  rw [hx]
theorem wh_spread (hl : t.s.po.length = n) (hn : n ≤ 1000) (hf : t.fl.length + n ≤ 1900) : TY Tryd.prog 1 (.loop (loopN Tryd.prog 18 0)) (heS g n m v2 v3 v4 R i q y0 [(7, .v (iv (0 : Nat)))] [] t) H2 (.exit 0) (fun y => heS g n m v2 v3 v4 R i q y [] [] (spreadM t i)) := by
  refine T_loop (I := {k : Nat // k ≤ n} × H2) (fun j => heS g n m v2 v3 v4 R i q j.2 [(7, .v (iv (j.1.1 : Nat)))] [] (sprTo (twoH t) i t j.1.1)) (fun j => n - j.1.1) (by simp) _ (fun ⟨⟨k, hk⟩, y⟩ => ?_) (⟨0, Nat.zero_le _⟩, y0)
  have f := sprTo_is (twoH t) i t k
  have ht := twoH_cf f.2.1
  have e1 : sprTo (twoH t) i t (k + 1) = sprStep (twoH t) i (sprTo (twoH t) i t k) k := rfl
  have eS : spreadM t i = sprTo (twoH t) i t n := by unfold spreadM; rw [hl]
  obtain ⟨T, hT⟩ : ∃ T, sprTo (twoH t) i t k = T := ⟨_, rfl⟩
  rw [hT] at f ht e1
  have hlT : T.s.po.length = n := f.1.trans hl
  refine step_at (heS g n m v2 v3 v4 R i q y [(7, .v (iv (k : Nat)))] [] T) (by rw [← hT]) ?_ ?_ (by show 1 ≤ 2; decide)
  exact fun go out => [.sp (decide ((k : Int) < (n : Int)))
    (fun d =>
      have h : k < n := by simpa using d
      let nx (T' : TS) (y : H2) (e : sprTo (twoH t) i t (k + 1) = T') : List (Ora Tryd.prog) := [.r _ _ (wrap_next h (by omega)), go (⟨k + 1, h⟩, y) (by show n - (k + 1) < n - k; omega) (heS g n m v2 v3 v4 R i q y [(7, .v (iv ((k + 1 : Nat) : Int)))] [] T') (by rw [← e])]
      [.b _ _ d, .so _ T.s.po[k]? (fun hx => [.no (by simp at hx; omega)]) fun x hx => [oM (lead_asks hx (hpg g n m v2 v3 v4) y hlT) 0 0 fun _ => [.sp (innerB x && linkB x)
        (fun hk2 => [.sp (decide ((k : Int) = (i : Int)))
          (fun hi => [.b _ _ hk2, .b (!_) _ (nb hi)] ++ nx T y (by rw [e1, sprStep_some hx, if_pos (.inl (by have := of_decide_eq_true hi; omega))]))
          (fun hi => [.b _ _ hk2, .b (!_) _ (nb hi), .k, oIx poE g n m h, oSf poE 0 g n m 3 20 (iv (twoH T)) (chP x (twoH T)) hx hlT (by decide) rfl (by kernel_rfl) rfl rfl rfl, .r _ _ (wrap_i h (by omega)),
            oAp inE 45 2 2 #[false, false] (.slice y.2.1 T.fl.length y.2.2) T.fl [(k : Int) + 1] (T.flush ((k : Int) + 1)).fl.length (by show _ = (T.fl ++ [_]).length; simp) (by show (T.fl ++ [_]).length ≤ _; simp; omega) fun y2 => nx ((T.setPo (T.s.po.set k (chP x (twoH T)))).flush ((k : Int) + 1)) (y.1, y2) (by
              have a := of_decide_eq_false hi
              rw [Bool.and_eq_true] at hk2
              rw [e1, sprStep_some hx, if_neg (by simp [hk2.1, hk2.2]; omega), ht])])])
        (fun hk2 => [.b _ _ hk2, No] ++ nx T y (by
          rw [e1, sprStep_some hx, if_pos (.inr (by cases a : innerB x <;> simp_all))]))]]])
    (fun d => [.b _ _ d, out y (heS g n m v2 v3 v4 R i q y [] [] T) (by rw [eS, ← hT, show k = n by simp at d; omega])])]
  intro _ _; kernel_rfl
theorem wh_block (P13 : Po) (r : Int) (hl : t.s.po.length = n) (hn : n ≤ 1000) : TY Tryd.prog 1 (.loop (loopN Tryd.prog 18 1)) (heS g n m v2 v3 v4 R i q y0 [(15, .v (iv r)), (16, .v (iv (0 : Nat)))] [(poA P13, 73)] t) Unit (.exit 2) (fun _ => heS g n m v2 v3 v4 R i q y0 [(15, .v (iv r))] [(poA P13, 73)] (mapTo (blkF i t.s.cf.p3) t n)) := by
  refine T_loop (I := {k : Nat // k ≤ n}) (fun j => heS g n m v2 v3 v4 R i q y0 [(15, .v (iv r)), (16, .v (iv (j.1 : Nat)))] [(poA P13, 73)] (mapTo (blkF i t.s.cf.p3) t j.1)) (fun j => n - j.1) (by simp) _ (fun ⟨k, hk⟩ => ?_) ⟨0, Nat.zero_le _⟩
  have f := mapTo_is (blkF i t.s.cf.p3) t k
  have e1 : mapTo (blkF i t.s.cf.p3) t (k + 1) = mapStep (blkF i t.s.cf.p3) (mapTo (blkF i t.s.cf.p3) t k) k := rfl
  obtain ⟨T, hT⟩ : ∃ T, mapTo (blkF i t.s.cf.p3) t k = T := ⟨_, rfl⟩
  rw [hT] at f e1
  have hlT : T.s.po.length = n := f.1.trans hl
  have hcf : T.s.cf = t.s.cf := f.2.1
  refine step_at (heS g n m v2 v3 v4 R i q y0 [(15, .v (iv r)), (16, .v (iv (k : Nat)))] [(poA P13, 73)] T) (by rw [← hT]) ?_ ?_ (by show 1 ≤ 3; decide)
  exact fun go out => [.sp (decide ((k : Int) < (n : Int)))
    (fun d =>
      have h : k < n := by simpa using d
      let nx (T' : TS) (e : mapTo (blkF i t.s.cf.p3) t (k + 1) = T') : List (Ora Tryd.prog) := [.r _ _ (wrap_next h (by omega)), go ⟨k + 1, h⟩ (by show n - (k + 1) < n - k; omega) (heS g n m v2 v3 v4 R i q y0 [(15, .v (iv r)), (16, .v (iv ((k + 1 : Nat) : Int)))] [(poA P13, 73)] T') (by rw [← e])]
      [.b _ _ d, .so _ T.s.po[k]? (fun hx => [.no (by simp at hx; omega)]) fun x hx => [.sp (decide ((k : Int) = (i : Int)))
        (fun hi => [.b (!_) _ (nb hi)] ++ nx T (by
          have hb : blkF i t.s.cf.p3 k x = x := by unfold blkF; rw [if_pos (by have := of_decide_eq_true hi; omega)]
          rw [e1, mapStep_some hx, hb]
          have hs : T.s.po.set k x = T.s.po := by
            obtain ⟨h1, h2⟩ := List.getElem?_eq_some_iff.1 hx
            rw [← h2]
            exact List.set_getElem_self h1
          rw [hs]
          rfl))
        (fun hi => [.b (!_) _ (nb hi), oIx poE g n m h, oLd poE 0 g n m hx hlT, .c _ _ _ (block_any x T.s.cf), oIx poE g n m h, oSt poE 0 g n m (blockP x T.s.cf.p3) h hlT rfl] ++ nx (T.setPo (T.s.po.set k (blockP x T.s.cf.p3))) (by rw [e1, mapStep_some hx, hcf]; unfold blkF; rw [if_neg (by have := of_decide_eq_false hi; omega)]))]])
    (fun d => [.b _ _ d, out () (heS g n m v2 v3 v4 R i q y0 [(15, .v (iv r))] [(poA P13, 73)] T) (by rw [← hT, show k = n by simp at d; omega])])]
  intro _ _; kernel_rfl
end
end
section
/- Layer 18's law: the twin's hear. -/
open Go.RowKit
open Ev
set_option maxRecDepth 100000
def vcL (x : Po) : List Value := [.int .u64 x.p13, .int .u32 x.p14, .int .u64 x.p15, .int .u16 x.p16]
theorem vcL_at (x : Po) : ∀ j u, (vcL x)[j]? = some u → (poC x)[13 + j]? = some u := fun j u h => by
  have hj := (List.getElem?_eq_some_iff.1 h).1
  have hj : j < 4 := hj
  have : j = 0 ∨ j = 1 ∨ j = 2 ∨ j = 3 := by omega
  rcases this with rfl | rfl | rfl | rfl <;> exact h
theorem vc_row : rowT Tryd.prog 71 = true := by kernel_rfl
theorem vc_size : (Tryd.prog.info? 71).map (·.size) = some 4 := by kernel_rfl
def answW (z : Po) (b : Int) : Pd := ⟨2, false, false, false, false, true, false, b, z.p13, z.p14, z.p15, z.p16, 0, 0, 0, 0⟩
theorem answ_is (z : Po) : sentQ z agrQ = answW z (roleT z.p10) := rfl
theorem eqV_comm (u v : Vc) : eqV u v = eqV v u := by
  unfold eqV
  simp only [eq_comm]
theorem hear_st {x : Po} {u v : Vc} {a : Int} {c : Cf} (h : 0 ≤ x.p11 ∧ x.p11 ≤ 2) : 0 ≤ (hearP x u v a c).p11 ∧ (hearP x u v a c).p11 ≤ 2 := by
  unfold hearP
  repeat' split
  all_goals exact h
theorem agree_st {x : Po} (h : 0 ≤ x.p11 ∧ x.p11 ≤ 2) : 0 ≤ (agreeP x).p11 ∧ (agreeP x).p11 ≤ 2 := by
  unfold agreeP
  split
  · exact ⟨by show (0 : Int) ≤ 2; omega, Int.le_refl _⟩
  · exact h
theorem no3 {A : Prop} {b : Bool} (h : ¬ A) (h1 : b = false) : ¬ (A ∨ b = true) := fun z => z.elim h (by simp [h1])
def T3 (t : TS) (i : Nat) (x : Po) : TS := t.setPo (t.s.po.set i x)
def plG (t : TS) (i : Nat) (x : Po) : TS := t.setPo (t.s.po.set i (plainP x))
theorem blk_at {t : TS} {i n : Nat} {z : Po} (h : t.s.po[i]? = some z) : (mapTo (blkF i t.s.cf.p3) t n).s.po[i]? = some z := by
  rw [mapTo_get, h]
  split
  · show some (blkF i _ i z) = _
    unfold blkF
    rw [if_pos rfl]
  · rfl
section
variable (g n m : Nat) (v2 v3 v4 : Value) (R : Bd)
def en0 (T : TS) (y : H2) : Ev.St := wS (some ⟨g, 0, none⟩) n m v2 v3 v4 y R 301 [] [] [] T
variable (i : Nat) (q : Pd) (v : Vc)
theorem part_take (hv : v.ok) (hin : i < n) (hn16 : n ≤ 16) (T2 : TS) (G : Gd T2) (hl2 : T2.s.po.length = n) (hto : T2.told.length ≤ 500) (x2 : Po) (hx2 : T2.s.po[i]? = some (poU x2 (vecN x2))) (y : H2) (C : TS) (e : C = takeM T2 i q v) :
    TY Tryd.prog 1 (partN Tryd.prog 18 [1, 1, 1, 1, 1, 1, 1]) (heS g n m v2 v3 v4 R i (pdU q v) y [] [] T2) H2 .normal (fun y => en0 g n m v2 v3 v4 R C y) := by
  exact TY_of (fun out =>
    let answer (C2 : TS) (X z : Po) (r : Int) (hr : z.p10 = r) (y : H2) (hl2 : C2.s.po.length = n) (hz : C2.s.po[i]? = some z) (hto : C2.told.length ≤ 1000) (h3 : 1 ≤ r ∧ r ≤ 3) (e : C = answerM C2 i) : List (Ora Tryd.prog) := [.ob {T5 : TS // mapTo (blkF i C2.s.cf.p3) C2 n = T5} ⟨_, rfl⟩ fun T5 =>
      have hB : TY Tryd.prog 1 (.loop (loopN Tryd.prog 18 1)) (heS g n m v2 v3 v4 R i (pdU q v) y [(15, .v (iv r)), (16, .v (iv (0 : Nat)))] [(poA X, 73)] C2) Unit (.exit 2) (fun _ => heS g n m v2 v3 v4 R i (pdU q v) y [(15, .v (iv r))] [(poA X, 73)] T5.1) := by rw [← T5.2]; exact wh_block C2 g n m v2 v3 v4 y R i (pdU q v) X r hl2 (by omega)
      have m5 := mapTo_is (blkF i C2.s.cf.p3) C2 n
      have hx5 : T5.1.s.po[i]? = some z := by rw [← T5.2]; exact blk_at hz
      have hl5 : T5.1.s.po.length = n := by rw [← T5.2, m5.1]; exact hl2
      have ht5 : T5.1.told.length ≤ 1000 := by rw [← T5.2, m5.2.2.2]; exact hto
      have e5 : ∀ b, roleT z.p10 = b → C = T5.1.tell (told1 ((i : Int) + 1) (answW z b)) := fun b hb => by
        rw [e]
        unfold answerM
        rw [hz]
        dsimp only
        rw [if_pos (by omega), hl2, ← T5.2]
        unfold sendM
        rw [blk_at hz]
        dsimp only
        rw [answ_is, hb]
      let ap (b : Int) (hb : roleT z.p10 = b) : List (Ora Tryd.prog) := [oAp tdE 44 1 4 #[false, false] (.slice y.1.1 T5.1.told.length y.1.2) T5.1.told [told1 ((i : Int) + 1) (answW z b)] (T5.1.tell (told1 ((i : Int) + 1) (answW z b))).told.length (by show _ = (T5.1.told ++ [_]).length; simp) (by show (T5.1.told ++ [_]).length ≤ _; simp; omega) fun y1 => [out (y1, y.2) (en0 g n m v2 v3 v4 R (T5.1.tell (told1 ((i : Int) + 1) (answW z b))) (y1, y.2)) (by rw [e5 b hb])]]
      [.l _ _ _ _ _ _ hB fun _ => [oIx poE g n m hin, oLr poE 0 g n m 71 13 (vcL z) hx5 hl5 vc_row vc_size (by show 13 + 4 ≤ 21; decide) (vcL_at z), .c _ _ _ (with_any z.p13 z.p14 z.p15 z.p16), .sp (decide (r = 3))
        (fun r3 => [.b _ _ r3] ++ ap 2 (by unfold roleT; have := of_decide_eq_true r3; rw [if_neg (by omega), if_pos (by omega)]))
        (fun r3 => [.b _ _ r3] ++ ap 1 (by unfold roleT; have := of_decide_eq_false r3; rw [if_pos (by omega)]))]]]
    [
      .ob {F : Po × Int // hearP x2 (vecN x2) v (IntKind.i64.wrap q.p12) T2.s.cf = F.1 ∧ hearN x2 (vecN x2) v (IntKind.i64.wrap q.p12) T2.s.cf = F.2} ⟨(_, _), rfl, rfl⟩ fun F =>
      have hc : ∀ w, Calls Tryd.prog 47 #[poV (poU x2 (vecN x2)), vcV v, .int .i64 (IntKind.i64.wrap q.p12), cfV T2.s.cf] w fun e w' => e = .returned (.tuple #[poV F.1.1, .int .i64 F.1.2]) ∧ Below w.heap.size w w' := by rw [← F.2.1, ← F.2.2]; exact hear_any x2 (vecN x2) v _ T2.s.cf
      have ok2 : okP F.1.1 := by rw [← F.2.1]; exact okP_hear (G.ok i _ hx2) hv
      have st2 : 0 ≤ F.1.1.p11 ∧ F.1.1.p11 ≤ 2 := by rw [← F.2.1]; exact hear_st (show 0 ≤ x2.p11 ∧ x2.p11 ≤ 2 from G.st i (poU x2 (vecN x2)) hx2)
      have l3 : (T3 T2 i F.1.1).s.po.length = n := by show (T2.s.po.set i _).length = n; rw [List.length_set]; exact hl2
      have hx3 : (T3 T2 i F.1.1).s.po[i]? = some F.1.1 := List.getElem?_set_self (by omega)
      have G3 : Gd (T3 T2 i F.1.1) := ⟨by omega, G.f, G.td, G.id, ok_set G.ok ok2, st_set G.st st2⟩
      have e3 : C = if F.1.2 = 1 then (if F.1.1.p10 = 4 then tellM (T3 T2 i F.1.1) i else (T3 T2 i F.1.1)) else if F.1.2 = 2 ∨ F.1.2 = 3 then (if q.p2 = true then answerM (chooseM (T3 T2 i F.1.1)) i else chooseM (T3 T2 i F.1.1)) else (T3 T2 i F.1.1) := by
        rw [e, takeM_some q v hx2, ← F.2.1, ← F.2.2]; rfl
      let chosen (hK : ¬ F.1.2 = 1) (hK2 : F.1.2 = 2 ∨ F.1.2 = 3) : List (Ora Tryd.prog) := [.ob {C2 : TS // chooseM (T3 T2 i F.1.1) = C2} ⟨_, rfl⟩ fun C2 =>
        have hM : Meth Tryd.prog 33 [] (acA (T3 T2 i F.1.1) (hpg g n m v2 v3 v4) y) 47 (acO (T3 T2 i F.1.1) (hpg g n m v2 v3 v4) y) H2 (fun _ => .tuple #[]) (acA C2.1 (hpg g n m v2 v3 v4)) (acO C2.1 (hpg g n m v2 v3 v4)) := by rw [← C2.2]; exact G3.choose (hpg g n m v2 v3 v4) y l3
        have e4 : C = if q.p2 = true then answerM C2.1 i else C2.1 := by rw [e3, if_neg hK, if_pos hK2, ← C2.2]
        have i4 := chooseM_is (T3 T2 i F.1.1)
        have l4 : C2.1.s.po.length = n := by rw [← C2.2, i4.1]; exact l3
        have t4 : C2.1.told.length ≤ 1000 := by rw [← C2.2]; have := i4.2.1; rw [l3] at this; have : (T3 T2 i F.1.1).told.length = T2.told.length := rfl; omega
        [oM hM 0 0 fun y1 => [.so _ C2.1.s.po[i]? (fun hz => [.no (by simp at hz; omega)]) fun z hz => [
          oIx poE g n m hin, oLf poE 0 g n m 3 10 (iv z.p10) hz l4 (by decide) rfl plain3, .sp q.p2
          (fun p2 => [.b _ _ p2, .sp (decide (z.p10 ≥ 1))
            (fun r1 => [.b _ _ r1, .sp (decide (z.p10 ≤ 3))
              (fun r3 => [.b _ _ r3] ++ answer C2.1 F.1.1 z z.p10 rfl y1 l4 hz t4 ⟨of_decide_eq_true r1, of_decide_eq_true r3⟩ (by rw [e4, if_pos p2]))
              (fun r3 => [.b _ _ r3, out y1 (en0 g n m v2 v3 v4 R C2.1 y1) (by rw [e4, if_pos p2]; unfold answerM; rw [hz]; dsimp only; rw [if_neg (by have := of_decide_eq_false r3; omega)])])])
            (fun r1 => [.b _ _ r1, No, out y1 (en0 g n m v2 v3 v4 R C2.1 y1) (by rw [e4, if_pos p2]; unfold answerM; rw [hz]; dsimp only; rw [if_neg (by have := of_decide_eq_false r1; omega)])])])
          (fun p2 => [.b _ _ p2, No, No, out y1 (en0 g n m v2 v3 v4 R C2.1 y1) (by rw [e4, if_neg (by simp [p2])])])]]]]
      [oIx poE g n m hin, oLd poE 0 g n m hx2 hl2, .c _ _ _ (vec_any (pdU q v)), .c _ _ _ hc, oIx poE g n m hin, oSt poE 0 g n m F.1.1 hin hl2 rfl, .sp (decide (F.1.2 = 1))
        (fun k1 => 
          have k1' := of_decide_eq_true k1
          [.sp (decide (F.1.1.p10 = 4))
          (fun r4 => [.b _ _ k1, .b _ _ r4, oM (tw_tell hx3 (of_decide_eq_true r4) st2 (by omega) (by show T2.told.length ≤ _; omega) (hpg g n m v2 v3 v4) y l3) 0 0 fun y1 => [.b (decide (F.1.2 = 2)) false (by simp; omega), .b (decide (F.1.2 = 3)) false (by simp; omega), out y1 (en0 g n m v2 v3 v4 R (tellM (T3 T2 i F.1.1) i) y1) (by rw [e3, if_pos k1', if_pos (of_decide_eq_true r4)])]])
          (fun r4 => [.b _ _ k1, .b _ _ r4, .b (decide (F.1.2 = 2)) false (by simp; omega), .b (decide (F.1.2 = 3)) false (by simp; omega), out y (en0 g n m v2 v3 v4 R (T3 T2 i F.1.1) y) (by rw [e3, if_pos k1', if_neg (of_decide_eq_false r4)])])])
        (fun k1 => 
          have k1' := of_decide_eq_false k1
          [.b _ _ k1, No, .sp (decide (F.1.2 = 2))
          (fun k2 => [.b _ _ k2, Yes] ++ chosen k1' (.inl (of_decide_eq_true k2)))
          (fun k2 => [.b _ _ k2, .sp (decide (F.1.2 = 3))
            (fun k3 => [.b _ _ k3] ++ chosen k1' (.inr (of_decide_eq_true k3)))
            (fun k3 => [.b _ _ k3, out y (en0 g n m v2 v3 v4 R (T3 T2 i F.1.1) y) (by rw [e3, if_neg k1', if_neg (fun z => z.elim (of_decide_eq_false k2) (of_decide_eq_false k3))])])])])]]) (fun β w => by kernel_rfl)
theorem part_agree (hin : i < n) (hn16 : n ≤ 16) (T2 : TS) (G : Gd T2) (hl2 : T2.s.po.length = n) (hfl : T2.fl.length ≤ 600) (x2 : Po) (hx2 : T2.s.po[i]? = some (poU x2 (vecN x2))) (hq : q.p0 = 2 ∧ (q.p7 = 2 ∨ q.p7 = 1)) (y : H2) (C : TS) (e : C = agreeM T2 i q v) :
    TY Tryd.prog 1 (partN Tryd.prog 18 [1, 1, 1, 1, 1, 1]) (heS g n m v2 v3 v4 R i (pdU q v) y [] [] T2) H2 .ret (fun y => en0 g n m v2 v3 v4 R C y) := by
  have e2 : C = if q.p5 = true ∧ x2.p10 = 4 ∧ hasV (poU x2 (vecN x2)) v then (if openedB (poU x2 (vecN x2)) (agreeP (poU x2 (vecN x2))) = true then changedM (T2.setPo (T2.s.po.set i (agreeP (poU x2 (vecN x2))))) i else T2.setPo (T2.s.po.set i (agreeP (poU x2 (vecN x2))))) else T2 := by
    rw [e]
    unfold agreeM
    rw [hx2]
    rfl
  have k2 := decide_eq_true hq.1
  exact TY_of (fun out =>
    let ag : List (Ora Tryd.prog) :=
      [oIx poE g n m hin, oLd poE 0 g n m hx2 hl2, .sp q.p5
        (fun h5 => [.sp (decide (x2.p10 = 4))
          (fun h4 => [.sp (eqV (vecN x2) v)
            (fun he => [.ob {F : Po × Bool // agreeP (poU x2 (vecN x2)) = F.1 ∧ openedB (poU x2 (vecN x2)) F.1 = F.2} ⟨(agreeP (poU x2 (vecN x2)), openedB (poU x2 (vecN x2)) (agreeP (poU x2 (vecN x2)))), rfl, rfl⟩ fun F =>
              have hc : ∀ w, Calls Tryd.prog 46 #[poV (poU x2 (vecN x2))] w fun e w' => e = .returned (.tuple #[poV F.1.1, .bool F.1.2]) ∧ Below w.heap.size w w' := by rw [← F.2.2, ← F.2.1]; exact agree_any _
              have l3 : (T2.setPo (T2.s.po.set i F.1.1)).s.po.length = n := by show (T2.s.po.set i _).length = n; rw [List.length_set]; exact hl2
              have e3 : C = if F.1.2 = true then changedM (T2.setPo (T2.s.po.set i F.1.1)) i else T2.setPo (T2.s.po.set i F.1.1) := by
                rw [e2, if_pos ⟨h5, of_decide_eq_true h4, (poU_eq x2 (vecN x2) v).2 (by rw [eqV_comm]; exact he)⟩, ← F.2.2, ← F.2.1]
              [.b _ _ h5, .b _ _ h4, .c _ _ _ (vec_any (pdU q v)), .q _ _ _ _ _ (q_eql (equal_vc (vecN x2) v)), .b _ _ he, .c _ _ _ hc, oIx poE g n m hin, oSt poE 0 g n m F.1.1 hin hl2 rfl, .sp F.1.2
                (fun o => [.b _ _ o, oM (tw_changed (t := T2.setPo (T2.s.po.set i F.1.1)) (i := i) (x := F.1.1) (List.getElem?_set_self (by omega)) (by omega) (by rw [l3]; show T2.fl.length + n ≤ _; omega) (hpg g n m v2 v3 v4) y l3) 0 0 fun y1 => [out y1 (en0 g n m v2 v3 v4 R _ y1) (by rw [e3, if_pos o])]])
                (fun o => [.b _ _ o, out y (en0 g n m v2 v3 v4 R (T2.setPo (T2.s.po.set i F.1.1)) y) (by rw [e3, if_neg (by simp [o])])])]])
            (fun he => [.b _ _ h5, .b _ _ h4, .c _ _ _ (vec_any (pdU q v)), .q _ _ _ _ _ (q_eql (equal_vc (vecN x2) v)), .b _ _ he, out y (en0 g n m v2 v3 v4 R T2 y) (by rw [e2, if_neg (fun z => by have := (poU_eq x2 (vecN x2) v).1 z.2.2; rw [eqV_comm, he] at this; cases this)])])])
          (fun h4 => [.b _ _ h5, .b _ _ h4, No, out y (en0 g n m v2 v3 v4 R T2 y) (by rw [e2, if_neg (fun z => (of_decide_eq_false h4) z.2.1)])])])
        (fun h5 => [.b _ _ h5, No, No, out y (en0 g n m v2 v3 v4 R T2 y) (by rw [e2, if_neg (by simp [h5])])])]
    [.sp (decide (q.p7 = 1)) (fun r1 => [.b _ _ k2, .b _ _ r1, Yes] ++ ag) (fun r1 => [.b _ _ k2, .b _ _ r1, .b (decide (q.p7 = 2)) true (by have := of_decide_eq_false r1; simp; omega)] ++ ag)]) (fun β w => by kernel_rfl)
theorem part_other (hv : v.ok) (hin : i < n) (hn16 : n ≤ 16) (T2 : TS) (G : Gd T2) (hl2 : T2.s.po.length = n) (hto : T2.told.length ≤ 500) (x2 : Po) (hx2 : T2.s.po[i]? = some (poU x2 (vecN x2))) (hq : ¬ (q.p0 = 2 ∧ (q.p7 = 2 ∨ q.p7 = 1))) (y : H2) (C : TS) (e : C = takeM T2 i q v) :
    TY Tryd.prog 1 (partN Tryd.prog 18 [1, 1, 1, 1, 1, 1]) (heS g n m v2 v3 v4 R i (pdU q v) y [] [] T2) H2 .normal (fun y => en0 g n m v2 v3 v4 R C y) := by
  have hT := part_take g n m v2 v3 v4 R i q v hv hin hn16 T2 G hl2 hto x2 hx2 y C e
  exact TY_of (fun out => [.sp (decide (q.p0 = 2))
    (fun k2 => [.b _ _ k2, .b (decide (q.p7 = 1)) false (by have := of_decide_eq_true k2; simp; omega), .b (decide (q.p7 = 2)) false (by have := of_decide_eq_true k2; simp; omega), .t _ _ _ _ _ _ hT fun y => [out y _ rfl]])
    (fun k2 => [.b _ _ k2, No, .t _ _ _ _ _ _ hT fun y => [out y _ rfl]])]) (fun β w => by kernel_rfl)
end
end
section
/- Layer 18's law: the twin's hear, whole. -/
open Go.RowKit
open Ev
set_option maxRecDepth 100000
theorem tw_hear {t : TS} {i : Nat} {x : Po} (h : Gd t) (hf : t.fl.length ≤ 500) (ht : t.told.length ≤ 500) (hx : t.s.po[i]? = some x) (hon : onP x = true) (q : Pd) (v : Vc) (hv : v.ok) : Acts 47 18 [iv ((i : Int) + 1), pdV (pdU q v)] t (hearM t i q v) := by
  intro c y hl
  obtain ⟨a, n, m, v2, v3, v4⟩ := c
  have hl : t.s.po.length = n := hl
  have hk := (List.getElem?_eq_some_iff.1 hx).1
  refine Meth_own (k := i) 0 rfl hk fun ⟨g, hg⟩ => ?_
  subst hg
  have hn16 := h.n
  have hin : i < n := by omega
  have hnn : n * n ≤ 16 * 16 := Nat.mul_le_mul (by omega) (by omega)
  unfold onP at hon
  rw [Bool.and_eq_true] at hon
  obtain ⟨h7, h6⟩ := hon
  have l1 : (plG t i x).s.po.length = n := by show (t.s.po.set i _).length = n; rw [List.length_set]; exact hl
  have hxo := h.ok i x hx
  have G1 : Gd (plG t i x) := ⟨by omega, h.f, h.td, h.id, ok_set h.ok ⟨hxo.r, hxo.c, hxo.b, hxo.p, hxo.k⟩, st_set h.st (h.st i x hx)⟩
  have sp := spread_is (plG t i x) i
  have sp3 : (spreadM (plG t i x) i).fl.length ≤ t.fl.length + n := by have := sp.2.2.1; rw [l1] at this; exact this
  have G2 : Gd (spreadM (plG t i x) i) := ⟨by rw [sp.1]; omega, by omega, by rw [sp.2.2.2]; exact h.td, by rw [sp.2.1]; exact h.id, spread_ok G1.ok, same_st (spread_same _ _) G1.st⟩
  have eH : hearM t i q v = if q.p0 = 128 then (if q.p0 = 128 ∨ q.p1 = true then spreadM (plG t i x) i else plG t i x) else if q.p0 = 2 ∧ (q.p7 = 2 ∨ q.p7 = 1) then agreeM (if q.p0 = 128 ∨ q.p1 = true then spreadM (plG t i x) i else plG t i x) i q v else takeM (if q.p0 = 128 ∨ q.p1 = true then spreadM (plG t i x) i else plG t i x) i q v := by
    unfold hearM
    rw [hx]
    rfl
  obtain ⟨C, hC⟩ : ∃ C, hearM t i q v = C := ⟨_, rfl⟩
  rw [hC] at eH ⊢
  have LS := fun R y => wh_spread (plG t i x) g n m v2 v3 v4 y R i (pdU q v) l1 (by omega) (by show t.fl.length + n ≤ _; omega)
  exact ev_acts (fun R fin =>
    let rest (T2 : TS) (G : Gd T2) (hl2 : T2.s.po.length = n) (hfl : T2.fl.length ≤ 600) (hto : T2.told.length ≤ 500) (y : H2) (e : C = if q.p0 = 128 then T2 else if q.p0 = 2 ∧ (q.p7 = 2 ∨ q.p7 = 1) then agreeM T2 i q v else takeM T2 i q v) : List (Ora Tryd.prog) := [.sp (decide (q.p0 = 128))
      (fun a => [.b _ _ a, fin y T2 (by rw [e, if_pos (of_decide_eq_true a)])])
      (fun a => [.so _ T2.s.po[i]? (fun hz => [.no (by simp at hz; omega)]) fun x2 hx2' =>
        have hx2 : T2.s.po[i]? = some (poU x2 (vecN x2)) := by rw [hx2']; exact congrArg some (okP_poU (G.ok i x2 hx2'))
        have e2 : C = if q.p0 = 2 ∧ (q.p7 = 2 ∨ q.p7 = 1) then agreeM T2 i q v else takeM T2 i q v := by rw [e, if_neg (of_decide_eq_false a)]
        [.sp (decide (q.p0 = 2 ∧ (q.p7 = 2 ∨ q.p7 = 1)))
          (fun k => [.b _ _ a, .t _ _ _ _ _ _ (part_agree g n m v2 v3 v4 R i q v hin (by omega) T2 G hl2 hfl x2 hx2 (of_decide_eq_true k) y C (by rw [e2, if_pos (of_decide_eq_true k)])) fun y1 => [fin y1 C rfl]])
          (fun k => [.b _ _ a, .t _ _ _ _ _ _ (part_other g n m v2 v3 v4 R i q v hv hin (by omega) T2 G hl2 hto x2 hx2 (of_decide_eq_false k) y C (by rw [e2, if_neg (of_decide_eq_false k)])) fun y1 => [fin y1 C rfl]])]])]
    let spr (hs : q.p0 = 128 ∨ q.p1 = true) : List (Ora Tryd.prog) := [.l _ _ _ _ _ _ (LS R y) fun y1 => rest (spreadM (plG t i x) i) G2 (sp.1.trans l1) (by omega) (by rw [sp.2.2.2]; exact ht) y1 (by rw [eH]; simp only [if_pos hs])]
    [.r _ _ (wrap_pre (i := i) (by omega)), .b (decide ((i : Int) < 0)) false (by simp), .b (decide ((i : Int) ≥ (n : Int))) false (by simp; omega), oIx poE g n m hin, oLf poE 0 g n m 4 7 (.bool x.p7) hx hl (by decide) rfl plain4, .b _ _ h7, oIx poE g n m hin, oLf poE 0 g n m 4 6 (.bool x.p6) hx hl (by decide) rfl plain4, .b (!_) _ (nb h6),
      oIx poE g n m hin, oSf poE 0 g n m 4 8 (.bool false) (plainP x) hx hl (by decide) rfl size4 rfl rfl rfl, .sp q.p1
      (fun h1 => [.b _ _ h1, Yes] ++ spr (.inr h1))
      (fun h1 => [.b _ _ h1, .sp (decide (q.p0 = 128))
        (fun hq => [.b _ _ hq] ++ spr (.inl (of_decide_eq_true hq)))
        (fun hq => [.b _ _ hq] ++ rest (plG t i x) G1 l1 (by show t.fl.length ≤ _; omega) ht y (by rw [eH]; simp only [if_neg (no3 (of_decide_eq_false hq) h1)]))])]) (fun R β w => by kernel_rfl)
end
section
/- What is the same is the same: structs of the tree. -/
open Go.RowKit
set_option maxRecDepth 100000
theorem self_71 (d : Nat) (a b c e : Int) (W : World) : (Op.equalIn (d + 2) 71 (.agg #[.int .u64 a, .int .u32 b, .int .u64 c, .int .u16 e]) (.agg #[.int .u64 a, .int .u32 b, .int .u64 c, .int .u16 e])).run Tryd.prog W = .ok true W := by
  have hS : Tryd.prog.underlying 71 = some (.struct (Tryd.prog.fieldsOf 71)) := by kernel_rfl
  have hp : Tryd.prog.stoodInHeld 71 = false := by kernel_rfl
  rw [run_equalIn_agg W (d + 1) 71 _ _ hS hp]
  simp only [Program.fieldsOf, Tryd.underlying71]
  go_simp
theorem self_69 (d : Nat) (a b : Int) (c : Bool) (W : World) : (Op.equalIn (d + 2) 69 (.agg #[.int .u16 a, .int .i64 b, .bool c]) (.agg #[.int .u16 a, .int .i64 b, .bool c])).run Tryd.prog W = .ok true W := by
  have hS : Tryd.prog.underlying 69 = some (.struct (Tryd.prog.fieldsOf 69)) := by kernel_rfl
  have hp : Tryd.prog.stoodInHeld 69 = false := by kernel_rfl
  rw [run_equalIn_agg W (d + 1) 69 _ _ hS hp]
  simp only [Program.fieldsOf, Tryd.underlying69]
  go_simp
theorem self_31 (d : Nat) (a b c e f g : Int) (W : World) : (Op.equalIn (d + 2) 31 (.agg #[.int .u64 a, .int .i64 b, .int .i64 c, .int .i64 e, .int .i64 f, .int .i64 g]) (.agg #[.int .u64 a, .int .i64 b, .int .i64 c, .int .i64 e, .int .i64 f, .int .i64 g])).run Tryd.prog W = .ok true W := by
  have hS : Tryd.prog.underlying 31 = some (.struct (Tryd.prog.fieldsOf 31)) := by kernel_rfl
  have hp : Tryd.prog.stoodInHeld 31 = false := by kernel_rfl
  rw [run_equalIn_agg W (d + 1) 31 _ _ hS hp]
  simp only [Program.fieldsOf, Tryd.underlying31]
  go_simp
theorem self_61 (d : Nat) (x : Pd) (W : World) : (Op.equalIn (d + 2) 61 (.agg #[.int .u8 x.p0, .bool x.p1, .bool x.p2, .bool x.p3, .bool x.p4, .bool x.p5, .bool x.p6, .int .u8 x.p7, .int .u64 x.p8, .int .u32 x.p9, .int .u64 x.p10, .int .u16 x.p11, .int .u16 x.p12, .int .u16 x.p13, .int .u16 x.p14, .int .u16 x.p15]) (.agg #[.int .u8 x.p0, .bool x.p1, .bool x.p2, .bool x.p3, .bool x.p4, .bool x.p5, .bool x.p6, .int .u8 x.p7, .int .u64 x.p8, .int .u32 x.p9, .int .u64 x.p10, .int .u16 x.p11, .int .u16 x.p12, .int .u16 x.p13, .int .u16 x.p14, .int .u16 x.p15])).run Tryd.prog W = .ok true W := by
  have hS : Tryd.prog.underlying 61 = some (.struct (Tryd.prog.fieldsOf 61)) := by kernel_rfl
  have hp : Tryd.prog.stoodInHeld 61 = false := by kernel_rfl
  rw [run_equalIn_agg W (d + 1) 61 _ _ hS hp]
  simp only [Program.fieldsOf, Tryd.underlying61]
  go_simp
theorem self_po (x : Po) (W : World) : (Op.equalIn 10000 73 (poV x) (poV x)).run Tryd.prog W = .ok true W := by
  have hS : Tryd.prog.underlying 73 = some (.struct (Tryd.prog.fieldsOf 73)) := by kernel_rfl
  have hp : Tryd.prog.stoodInHeld 73 = false := by kernel_rfl
  have a1 := fun W => self_69 9997 x.p0 x.p1 x.p2 W
  have a2 := fun W => self_71 9997 x.p13 x.p14 x.p15 x.p16 W
  rw [show (10000 : Nat) = 9999 + 1 from rfl, run_equalIn_agg W 9999 73 _ _ hS hp]
  simp only [Program.fieldsOf, Tryd.underlying73, poA]
  go_simp
theorem self_td (x : Td) (W : World) : (Op.equalIn 10000 89 (.agg (tdA x)) (.agg (tdA x))).run Tryd.prog W = .ok true W := by
  have hS : Tryd.prog.underlying 89 = some (.struct (Tryd.prog.fieldsOf 89)) := by kernel_rfl
  have hp : Tryd.prog.stoodInHeld 89 = false := by kernel_rfl
  have a1 := fun W => self_61 9997 ⟨x.p1, x.p2, x.p3, x.p4, x.p5, x.p6, x.p7, x.p8, x.p9, x.p10, x.p11, x.p12, x.p13, x.p14, x.p15, x.p16⟩ W
  rw [show (10000 : Nat) = 9999 + 1 from rfl, run_equalIn_agg W 9999 89 _ _ hS hp]
  simp only [Program.fieldsOf, Tryd.underlying89, tdA]
  go_simp
theorem self_cf (x : Cf) (W : World) : (Op.equalIn 10000 31 (cfV x) (cfV x)).run Tryd.prog W = .ok true W := self_31 9998 _ _ _ _ _ _ W
theorem self_38 (c : Nat → Int) (w : World) : (Op.equalIn 10000 38 (.agg #[.int .u32 (c 0), .int .u32 (c 1), .int .u32 (c 2), .int .u32 (c 3), .int .u32 (c 4), .int .u32 (c 5), .int .u32 (c 6), .int .u32 (c 7), .int .u32 (c 8), .int .u32 (c 9), .int .u32 (c 10), .int .u32 (c 11), .int .u32 (c 12), .int .u32 (c 13)]) (.agg #[.int .u32 (c 0), .int .u32 (c 1), .int .u32 (c 2), .int .u32 (c 3), .int .u32 (c 4), .int .u32 (c 5), .int .u32 (c 6), .int .u32 (c 7), .int .u32 (c 8), .int .u32 (c 9), .int .u32 (c 10), .int .u32 (c 11), .int .u32 (c 12), .int .u32 (c 13)])).run Tryd.prog w = .ok true w := by
  have ha := fun W => run_isAgg_plain (P := Tryd.prog) (t := 36) Tryd.underlying36 rfl W
  have infoU : (Tryd.prog.info? 36).map (fun i => (i.zero, i.size, i.bytes)) = some (some (.int .u32 0), 1, 4) := by kernel_rfl
  have cellsU : Tryd.prog.cellsOf 36 = 1 := by kernel_rfl
  obtain ⟨i, hi, _⟩ := info_parts infoU
  have hs := fun W => run_sizeOf (P := Tryd.prog) (w := W) hi
  rw [cellsU] at hs
  have u27 := Tryd.underlying36
  rw [show (10000 : Nat) = 9999 + 1 from rfl, Op.equalIn]
  simp only [Sem.run_bind, run_underlying Tryd.underlying38, Result.andThen_ok]
  simp only [Std.Legacy.Range.forIn_eq_forIn_range', Std.Legacy.Range.size, Nat.sub_zero, Nat.add_sub_cancel, Nat.div_one, List.range'_succ, List.range'_zero, List.forIn_cons, List.forIn_nil]
  go_simp
end
section
open Go.ChangeShapes Go.WideShapes Go.RowKit Go.Deep
def RowsAt {α : Type} (w : World) (A : Option Addr) (size : Nat) (enc : α → List Value) (l : List α) : Prop :=
 l = [] ∨ ∃ b off, A = some ⟨b, off, none⟩ ∧ b < w.heap.size ∧ ∀ (i : Nat) (x : α), l[i]? = some x → ∀ (j : Nat) (u : Value), (enc x)[j]? = some u → w.cell? ⟨b, off + (i * size + j), none⟩ = some u
theorem cell_spot {w : World} {x : Addr} {u : Value} (h : w.cell? x = some u) : x.spot = none ∧ x.block < w.heap.size := by
 unfold World.cell? at h
 split at h
 ·
  rename_i hb
  refine ⟨?_, (Array.getElem?_eq_some_iff.1 hb).1⟩
  split at h
  ·
   simp at h
  ·
   rename_i hs; simpa using hs
 ·
  simp at h
theorem add_none (b o n : Nat) : (⟨b, o, none⟩ : Addr).add n = ⟨b, o + n, none⟩ := by
 unfold Addr.add
 split <;> simp_all
theorem RowsAt.same {α : Type} {w w' : World} {A : Option Addr} {size : Nat} {enc : α → List Value} {l : List α} (h : RowsAt w A size enc l) (hb : Below w.heap.size w w') : RowsAt w' A size enc l := by
 rcases h with rfl | ⟨b, off, rfl, hlt, h⟩
 ·
  exact .inl rfl
 ·
  refine .inr ⟨b, off, rfl, Nat.lt_of_lt_of_le hlt hb.size, fun i x hx j u hu => ?_⟩
  have e := hb.block b hlt
  have := h i x hx j u hu
  unfold World.cell? at this ⊢
  rw [e]
  exact this
theorem open_rows {P : Program} {H : Type} {en : TypeId × Value → H} {w : World} {base : Nat} {spare : Nat → Bool} {held : Bool} {t e : TypeId} {size : Nat} {α : Type} {a : Option Addr} {len cap : Nat} {d : DataW H} {p : List MemPlace}
 (enc : α → List Value) (ok : α → Prop) (ht : P.underlying t = some (.slice e)) (hc : P.cellsOf e = size) (hs : 0 < size) (henc : ∀ x, (enc x).length = size)
 (each : ∀ (fuel : Nat) (cs : List Value) (y : DataW H × List MemPlace), cs.length = size → DataW.trod en P w base spare held fuel e cs = some y → ∃ x : α, cs = enc x ∧ ok x)
 (h : DataW.Trod en P w base spare held t (.slice a len cap) d p) :
 ∃ l : List α, l.length = len ∧ RowsAt w a size enc l ∧ (∀ x ∈ l, ok x) ∧ (len ≤ cap ∧ cap ≤ maxLen) ∧ (a = none → len = 0 ∧ cap = 0) := by
 obtain ⟨fuel, hf⟩ := h
 rcases open_slice ht hf with ⟨hcs, -⟩ | ⟨x, len', cap', m, n, D, Pl, hcs, -, hl, hm, hmm, -, hi⟩
 ·
  simp [Value.cells] at hcs
  obtain ⟨rfl, rfl, rfl⟩ := hcs
  exact ⟨[], rfl, .inl rfl, by simp, ⟨Nat.le_refl _, Nat.zero_le _⟩, fun _ => ⟨rfl, rfl⟩⟩
 ·
  simp [Value.cells] at hcs
  obtain ⟨rfl, rfl, rfl⟩ := hcs
  have hlm : len ≤ m := by rw [hmm]; split <;> omega
  rw [hc] at hi
  have key : ∀ i : Fin len, ∃ v : α, ok v ∧ ∀ (j : Nat) (u : Value), (enc v)[j]? = some u → w.cell? ((x.add (i * size)).add j) = some u := by
   intro ⟨i, hil⟩
   obtain ⟨cs', hcell, htr⟩ := hi i (by omega)
   obtain ⟨_, hcl, hat⟩ := World.cells?_some hcell
   obtain ⟨v, rfl, hok⟩ := each _ _ _ hcl htr
   refine ⟨v, hok, fun j u hu => ?_⟩
   have hj : j < size := by rw [← henc v]; exact (List.getElem?_eq_some_iff.1 hu).1
   have := hat j (by omega)
   rw [this]
   simpa [List.getElem?_eq_some_iff] using hu
  let f : Fin len → α := fun i => Classical.choose (key i)
  have fs : ∀ i, ok (f i) ∧ ∀ (j : Nat) (u : Value), (enc (f i))[j]? = some u → w.cell? ((x.add (i * size)).add j) = some u := fun i => Classical.choose_spec (key i)
  refine ⟨List.ofFn f, by simp, ?_, ?_, ⟨hl, hm⟩, by simp⟩
  ·
   rcases Nat.eq_zero_or_pos len with h0 | h0
   ·
    subst h0; exact .inl (by simp)
   ·
    have hx : x.spot = none ∧ x.block < w.heap.size := by
     have h1 : 0 < (enc (f ⟨0, h0⟩)).length := by rw [henc]; exact hs
     have := (fs ⟨0, h0⟩).2 0 _ (List.getElem?_eq_getElem h1)
     have q := cell_spot this
     simpa [Addr.add] using q
    obtain ⟨b, o, sp⟩ := x
    obtain ⟨h1, h2⟩ := hx
    simp only at h1 h2
    subst h1
    refine .inr ⟨b, o, rfl, h2, fun i v hv j u hu => ?_⟩
    obtain ⟨hil, rfl⟩ := List.getElem?_eq_some_iff.1 hv
    rw [List.length_ofFn] at hil
    rw [List.getElem_ofFn] at hu
    have := (fs ⟨i, hil⟩).2 j u hu
    rw [add_none, add_none, Nat.add_assoc] at this
    exact this
  ·
   intro v hv
   obtain ⟨i, rfl⟩ := List.mem_ofFn.1 hv
   exact (fs i).1
end
end Go.Proofs.YtebnpblincgjlaaDoor
section
/- Lists that are read alone, wherever they lie; slices that are made are owned. -/
namespace Go.Proofs.YtebnpblincgjlaaDoor.Ev
open Go.RowKit
theorem rows_mv {α : Type} {G : Nat → Prop} {w w' : World} {a : Option Addr} {size : Nat} {enc : α → List Value} {l : List α} {B : Nat} (h : RowsAt w a size enc l) (hb : ∀ x, a = some x → x.block < B) (hm : Mv G w w') (hG : ∀ k, G k → B ≤ k) : RowsAt w' a size enc l := by
  rcases h with rfl | ⟨b, off, rfl, hlt, h⟩
  · exact .inl rfl
  · have hbB : b < B := hb _ rfl
    refine .inr ⟨b, off, rfl, Nat.lt_of_lt_of_le hlt hm.size, fun i x hx j u hu => ?_⟩
    have e := hm.block b hlt (fun g => by have := hG b g; omega)
    have := h i x hx j u hu
    unfold World.cell? at this ⊢
    rw [e]
    exact this
/-- A list that lies ahead of block B. -/
def bdX {α : Type} (B size : Nat) (enc : α → List Value) (a : Option Addr) (l : List α) : Bd :=
  ⟨fun W => RowsAt W a size enc l ∧ ∀ x, a = some x → x.block < B, fun _ => False, B, fun _ h => h.elim, fun h hm _ hG => ⟨rows_mv h.1 h.2 hm hG, h.2⟩⟩
def hopX (a : Option Addr) (j : Nat) : Option Addr := match a with
  | none => none
  | some x => some ⟨x.1, x.2 + j, none⟩
section
variable {α : Type} {P : Program} {t e : TypeId} {size : Nat} {enc : α → List Value} {val : α → Value}
theorem run_ixo (E : ElV P t e size enc val) {k g off : Nat} (n m : Nat) (hk : k < n) (W : World) : (Instr.indexAt t (.slice (some ⟨g, off, none⟩) n m) (.int .i64 (k : Nat))).run P W = .ok (.pointer (some ⟨g, off + k * size, none⟩)) W := by
  have hs := E.sz
  rw [run_indexAt_slice (h := by rw [E.el]; exact E.ht), if_pos (by omega), E.el]
  cases c : P.info? e with
  | none => rw [c] at hs; cases hs
  | some i =>
    rw [c] at hs
    have hs : i.size = size := by simpa using hs
    simp [sizeOf, typeInfo, c, Addr.add, hs]
    try omega
def Reads (X : Bd) (a : Option Addr) (size : Nat) (enc : α → List Value) (l : List α) : Prop := ∀ W, X.p W → RowsAt W a size enc l
theorem reads_x (B : Nat) (a : Option Addr) (size : Nat) (enc : α → List Value) (l : List α) : Reads (bdX B size enc a l) a size enc l := fun W h => h.1
/-- A place in such a list. -/
def oXx {X : Bd} (E : ElV P t e size enc val) (p : Nat) {a : Option Addr} (n m : Nat) {l : List α} (hX : Reads X a size enc l) {k : Nat} (hk : k < n) (hn : l.length = n) : Ora P :=
  .x true (.s fun _ => do pure (.value (← Instr.indexAt t (.slice a n m) (.int .i64 (k : Nat))))) p [X] [X] (.pointer (hopX a (k * size)))
    (fun w0 F R β w K => by
      rcases hX w K.one with rfl | ⟨b, off, rfl, -, -⟩
      · simp at hn; omega
      · show stepS P _ _ w
        unfold stepS
        simp only [Sem.run_bind, Sem.run_pure, Result.andThen_ok, run_ixo E n m hk w]
        exact ⟨rfl, K⟩)
/-- An element of such a list. -/
def oXd {X : Bd} (E : ElV P t e size enc val) (hv : ∀ x, val x = .agg (enc x).toArray) (hd : rowT P e = true) (p : Nat) {a : Option Addr} {l : List α} (hX : Reads X a size enc l) {k : Nat} {x : α} (hx : l[k]? = some x) : Ora P :=
  .x true (.s fun _ => do pure (.value (← Instr.loadAt e (.pointer (hopX a (k * size)))))) p [X] [X] (val x)
    (fun w0 F R β w K => by
      rcases hX w K.one with rfl | ⟨b, off, rfl, -, h⟩
      · cases hx
      · show stepS P _ _ w
        unfold stepS
        unfold rowT at hd
        split at hd
        · next d hd2 =>
          have hr : w.rangeAt b (off + k * size) (enc x) := fun j u hu => by
            have q := h k x hx j u hu
            rw [show off + (k * size + j) = off + k * size + j by omega] at q
            exact q
          have e2 := run_loadVar_mid w b (off + k * size) e (enc x) d hr hd2 hd (by rw [E.len]; exact E.sz)
          simp only [hopX, Instr.loadAt, Instr.sureAddr, Sem.run_bind, Sem.run_pure, Result.andThen_ok, e2, hv]
          exact ⟨trivial, K⟩
        · cases hd)
/-- A slice that is made of its parts is owned. -/
def oNs (t e : TypeId) (n : Nat) (op : Sem Next) (cs : Array Value) (hz : ∀ w, op.run P w = .ok (.value (.slice (some ⟨w.heap.size, 0, none⟩) n n)) (w.alloc (.cells cs e))) (rest : Nat → List (Ora P)) : Ora P :=
  .e Nat 0 (.s fun _ => op) [] 0 [] (fun b => [bdB b cs e]) (fun b => .slice (some ⟨b, 0, none⟩) n n)
    (fun w0 F R β w hlo K => by
      show stepS P _ _ w
      unfold stepS
      rw [hz w]
      refine ⟨w.heap.size, rfl, ?_⟩
      exact sep_out (Kf.fresh K ((Below.refl _ _).alloc (Nat.le_refl _) _) (X := bdB w.heap.size cs e) (Blk.new _ _ _) (fun k hk => Nat.le_of_eq (Eq.symm hk)) rfl)) rest
theorem reads_b {b n : Nat} {cs : Array Value} {ty : TypeId} (l : List α) (henc : ∀ x, (enc x).length = size) (hc : cs = (cellsL enc l).toArray) : Reads (bdB b cs ty) (some ⟨b, 0, none⟩) size enc l := fun W h => by
  have h : Blk W b cs ty := h
  refine .inr ⟨b, 0, rfl, h.lt, fun i x hx j u hu => ?_⟩
  rw [Nat.zero_add, h.cell, hc, List.getElem?_toArray]
  rw [cellsL_at henc l i j x hx (by have := (List.getElem?_eq_some_iff.1 hu).1; rw [henc] at this; exact this)]
  exact hu
end
end Go.Proofs.YtebnpblincgjlaaDoor.Ev
end
section
/- What is owned, in another order. -/
namespace Go.Proofs.YtebnpblincgjlaaDoor.Ev
open Go.RowKit
theorem lo_mem {l : Bds} {A : Bd} (h : A ∈ l) : A.lo ≤ (sepL l).lo := by
  induction l with
  | nil => cases h
  | cons B l ih =>
    show A.lo ≤ max B.lo (sepL l).lo
    rcases List.mem_cons.1 h with rfl | h
    · omega
    · have := ih h; omega
theorem lo_le {l : Bds} {n : Nat} (h : ∀ A ∈ l, A.lo ≤ n) : (sepL l).lo ≤ n := by
  induction l with
  | nil => exact Nat.zero_le _
  | cons B l ih =>
    show max B.lo (sepL l).lo ≤ n
    have h1 := h B List.mem_cons_self
    have h2 := ih fun A hA => h A (List.mem_cons_of_mem _ hA)
    omega
theorem perm_own {A A' : Bds} (h : A.Perm A') : ∀ w0 F R w, Kf w0 F ((sepL A).sep R) w → Kf w0 F ((sepL A').sep R) w := fun w0 F R w K =>
  Kf.iff K (fun q => ⟨sepL_p.2 ⟨fun B hB => (sepL_p.1 q.1).1 B (h.mem_iff.2 hB), h.pairwise (sepL_p.1 q.1).2 Apart.symm⟩, q.2.1, fun k hk => q.2.2 k (by
      obtain ⟨B, hB, hb⟩ := sepL_f.1 hk
      exact sepL_f.2 ⟨B, h.mem_iff.2 hB, hb⟩)⟩)
    (fun k hk => hk.elim (fun hk => .inl (by
      obtain ⟨B, hB, hb⟩ := sepL_f.1 hk
      exact sepL_f.2 ⟨B, h.mem_iff.2 hB, hb⟩)) .inr) (by
    have : (sepL A').lo ≤ (sepL A).lo := lo_le fun B hB => lo_mem (h.mem_iff.2 hB)
    show max (sepL A').lo R.lo ≤ max (sepL A).lo R.lo
    omega)
def permB (idx : List Nat) (A : Bds) : Bds := idx.filterMap fun i => A[i]?
theorem permB_all : ∀ (A B : Bds), (List.range' B.length A.length).filterMap (fun i => (B ++ A)[i]?) = A
  | [], B => rfl
  | x :: A, B => by
    rw [List.length_cons, List.range'_succ, List.filterMap_cons, List.getElem?_append_right (Nat.le_refl _), Nat.sub_self]
    show x :: _ = x :: A
    have q := permB_all A (B ++ [x])
    rw [List.length_append, List.length_singleton, List.append_assoc] at q
    exact congrArg (x :: ·) q
theorem permB_perm {idx : List Nat} {A : Bds} (h : (List.range A.length).Perm idx) : A.Perm (permB idx A) := by
  have e := permB_all A []
  rw [List.length_nil, ← List.range_eq_range', List.nil_append] at e
  have q := h.filterMap fun i => A[i]?
  rw [e] at q
  exact q
/-- What is owned is told in another order. -/
def oPm {P : Program} (idx : List Nat) (A : Bds) (n : Nat) (hn : A.length = n) (h : (List.range n).Perm idx) : Ora P := .a 0 A (permB idx A) (perm_own (permB_perm (by rw [hn]; exact h)))
end Go.Proofs.YtebnpblincgjlaaDoor.Ev
end
