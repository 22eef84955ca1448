import Derived.Test.YtebnpblincgjlaaDoorG14
set_option linter.unusedSimpArgs false
set_option linter.unusedVariables false
namespace Go.Proofs.YtebnpblincgjlaaDoor
section
/- Layer 18, by the evaluator: marks. -/
open Go.RowKit
open Ev
set_option maxRecDepth 100000
def foldT (Tf : TS → Nat → TS) (t : TS) (idx : List Nat) : Nat → TS
  | 0 => t
  | k + 1 => match idx[k]? with
    | some i => Tf (foldT Tf t idx k) i
    | none => foldT Tf t idx k
def castI (l : List Nat) : List Int := l.map fun i : Nat => (i : Int)
def mkC (y : H2) (n0 n1 : Nat) : Array Value := #[.slice y.1.1 n0 y.1.2, .slice y.2.1 n1 y.2.2]
def mkO (y : H2) (l0 l1 : List Int) : Bds := [bdO 3 1 inC (.slice y.1.1 l0.length y.1.2) l0, bdO 3 1 inC (.slice y.2.1 l1.length y.2.2) l1]
theorem mark_no (k : Int) (i : Int) (y : H2) (l0 l1 : List Int) : Meth Tryd.prog 57 [iv k, iv i, .bool false] (mkC y l0.length l1.length) 138 (mkO y l0 l1) Unit (fun _ => .tuple #[]) (fun _ => mkC y l0.length l1.length) (fun _ => mkO y l0 l1) :=
  ev_meth (fun R fin => [No, fin ()]) (fun R β w => by kernel_rfl)
theorem mark0_yes (i : Int) (y : H2) (l0 l1 : List Int) (hl : l0.length ≤ 1900) : Meth Tryd.prog 57 [iv 0, iv i, .bool true] (mkC y l0.length l1.length) 138 (mkO y l0 l1) Hd (fun _ => .tuple #[]) (fun z => mkC (z, y.2) (l0 ++ [i]).length l1.length) (fun z => mkO (z, y.2) (l0 ++ [i]) l1) :=
  ev_meth (fun R fin => [Yes, oAp inE 45 0 1 #[false, false] (.slice y.1.1 l0.length y.1.2) l0 [i] (l0 ++ [i]).length (by simp) (by simp; omega) fun z => [fin z]]) (fun R β w => by kernel_rfl)
theorem mark1_yes (i : Int) (y : H2) (l0 l1 : List Int) (hl : l1.length ≤ 1900) : Meth Tryd.prog 57 [iv 1, iv i, .bool true] (mkC y l0.length l1.length) 138 (mkO y l0 l1) Hd (fun _ => .tuple #[]) (fun z => mkC (y.1, z) l0.length (l1 ++ [i]).length) (fun z => mkO (y.1, z) l0 (l1 ++ [i])) :=
  ev_meth (fun R fin => [Yes, oAp inE 45 1 1 #[false, false] (.slice y.2.1 l1.length y.2.2) l1 [i] (l1 ++ [i]).length (by simp) (by simp; omega) fun z => [fin z]]) (fun R β w => by kernel_rfl)
/-- What is done to each: a method of the act's, and what it keeps. -/
def Does (F : FuncId) (Tf : TS → Nat → TS) (G : Nat → TS → Prop) (n : Nat) (idx : List Nat) : Prop := ∀ (k : Nat) T (i : Nat), G k T → T.s.po.length = n → idx[k]? = some i → Acts 112 F [iv (i : Nat)] T (Tf T i) ∧ G (k + 1) (Tf T i) ∧ (Tf T i).s.po.length = n
theorem castI_at {idx : List Nat} {k : Nat} {i : Nat} (h : idx[k]? = some i) : (castI idx)[k]? = some (i : Int) := by
  unfold castI
  rw [List.getElem?_map, h]
  rfl
theorem castI_len (idx : List Nat) : (castI idx).length = idx.length := List.length_map _
theorem fold_keeps {F : FuncId} {Tf : TS → Nat → TS} {G : Nat → TS → Prop} {n : Nat} {idx : List Nat} (h : Does F Tf G n idx) {t : TS} (g : G 0 t) (hl : t.s.po.length = n) : ∀ k, k ≤ (castI idx).length → G k (foldT Tf t idx k) ∧ (foldT Tf t idx k).s.po.length = n
  | 0, _ => ⟨g, hl⟩
  | k + 1, hk => by
    have q := fold_keeps h g hl k (by omega)
    rw [castI_len] at hk
    obtain ⟨i, hi⟩ : ∃ i, idx[k]? = some i := ⟨_, List.getElem?_eq_getElem (by omega)⟩
    show G (k + 1) (match idx[k]? with | some i => _ | none => _) ∧ (match idx[k]? with | some i => _ | none => _ : TS).s.po.length = n
    rw [hi]
    exact (h k _ i q.1 q.2 hi).2
section
variable (b : Nat) (F : FuncId) (Tf : TS → Nat → TS) (G : Nat → TS → Prop) (idx : List Nat) (lo : List Int) (y : H2) (c : Hp) (R : Bd)
def ea0A (T : TS) (z : H2) : Bds := mkO y (castI idx) lo ++ bdB b (acA T c z) 112 :: acO T c z
def ea0S (T : TS) (z : H2) (k : Nat) : Ev.St := ⟨sp 22 [(0, .p 0 0), (2, .v (.func (.func F) #[pB b] #[])), (12, .v (.slice y.1.1 (castI idx).length y.1.2)), (13, .v (iv ((castI idx).length : Nat))), (14, .v (iv (k : Nat)))], [(mkC y (castI idx).length lo.length, 138)], ea0A b idx lo y c T z ++ [R]⟩
theorem each0_loop (hF : F = 59 ∨ F = 60) (hd : Does F Tf G c.n idx) {t : TS} (g : G 0 t) (hl : t.s.po.length = c.n) (hn : (castI idx).length ≤ 1000) (z0 : H2) : TY Tryd.prog 1 (.loop (loopN Tryd.prog 58 0)) (ea0S b F idx lo y c R t z0 0) H2 (.exit 0) (fun z => ea0S b F idx lo y c R (foldT Tf t idx (castI idx).length) z (castI idx).length) := by
  refine T_loop (I := {k : Nat // k ≤ (castI idx).length} × H2) (fun j => ea0S b F idx lo y c R (foldT Tf t idx j.1.1) j.2 j.1.1) (fun j => (castI idx).length - j.1.1) (by simp) _ (fun ⟨⟨k, hk⟩, z⟩ => ?_) (⟨0, Nat.zero_le _⟩, z0)
  have q := fold_keeps hd g hl k hk
  by_cases h : k < (castI idx).length
  · obtain ⟨i, hi⟩ : ∃ i, idx[k]? = some i := ⟨_, List.getElem?_eq_getElem (by rw [castI_len] at h; exact h)⟩
    obtain ⟨T, hT⟩ : ∃ T, foldT Tf t idx k = T := ⟨_, rfl⟩
    have e1 : foldT Tf t idx (k + 1) = Tf (foldT Tf t idx k) i := by
      show (match idx[k]? with | some i => _ | none => _ : TS) = _
      rw [hi]
    rw [hT] at q e1
    have ha := Meth_in ((hd k T i q.1 q.2 hi).1 c z q.2) b
    obtain ⟨T2, hT2⟩ : ∃ T2, Tf T i = T2 := ⟨_, rfl⟩
    rw [hT2] at e1 ha
    have d : decide ((k : Int) < ((castI idx).length : Int)) = true := by simp; omega
    have hlt : (castI idx).length - (k + 1) < (castI idx).length - k := by omega
    have hx := castI_at hi
    have hcl : (castI idx).length = (castI idx).length := rfl
    rcases hF with rfl | rfl
    · refine step_at (ea0S b 59 idx lo y c R T z k) (by rw [← hT]) ?_ ?_ (Nat.le_refl 1)
      exact fun go out => [.b _ _ d, oJx inE 0 y.1.1 (castI idx).length y.1.2 h hcl, oJd inE 0 y.1.1 (castI idx).length y.1.2 hx hcl, oF ha z 2 fun z1 => [.r _ _ (wrap_next h (by omega)), go (⟨k + 1, h⟩, z1) hlt (ea0S b 59 idx lo y c R T2 z1 (k + 1)) (by show _ = ea0S b 59 idx lo y c R (foldT Tf t idx (k + 1)) _ _; rw [e1])]]
      intro _ _; kernel_rfl
    · refine step_at (ea0S b 60 idx lo y c R T z k) (by rw [← hT]) ?_ ?_ (Nat.le_refl 1)
      exact fun go out => [.b _ _ d, oJx inE 0 y.1.1 (castI idx).length y.1.2 h hcl, oJd inE 0 y.1.1 (castI idx).length y.1.2 hx hcl, oF ha z 2 fun z1 => [.r _ _ (wrap_next h (by omega)), go (⟨k + 1, h⟩, z1) hlt (ea0S b 60 idx lo y c R T2 z1 (k + 1)) (by show _ = ea0S b 60 idx lo y c R (foldT Tf t idx (k + 1)) _ _; rw [e1])]]
      intro _ _; kernel_rfl
  · obtain rfl : k = (castI idx).length := by omega
    refine step_at _ rfl ?_ ?_ (Nat.le_refl 1)
    exact fun go out => [.b _ _ (show decide (((castI idx).length : Int) < ((castI idx).length : Int)) = false by simp), out z _ rfl]
    intro _ _; kernel_rfl
theorem each0_meth (hF : F = 59 ∨ F = 60) (hd : Does F Tf G c.n idx) {t : TS} (g : G 0 t) (hl : t.s.po.length = c.n) (hn : (castI idx).length ≤ 1000) (z0 : H2) : Meth Tryd.prog 58 [iv 0, .func (.func F) #[pB b] #[]] (mkC y (castI idx).length lo.length) 138 (ea0A b idx lo y c t z0) H2 (fun _ => .tuple #[]) (fun _ => mkC y (castI idx).length lo.length) (ea0A b idx lo y c (foldT Tf t idx (castI idx).length)) := by
  have hL := fun R => each0_loop b F Tf G idx lo y c R hF hd g hl hn z0
  exact ev_meth (fun R fin => [.l _ _ _ _ _ _ (hL R) fun z => [fin z]]) (fun R β w => by kernel_rfl)
end
section
variable (b : Nat) (F : FuncId) (Tf : TS → Nat → TS) (G : Nat → TS → Prop) (idx : List Nat) (lo : List Int) (y : H2) (c : Hp) (R : Bd)
def ea1A (T : TS) (z : H2) : Bds := mkO y lo (castI idx) ++ bdB b (acA T c z) 112 :: acO T c z
def ea1S (T : TS) (z : H2) (k : Nat) : Ev.St := ⟨sp 22 [(0, .p 0 0), (2, .v (.func (.func F) #[pB b] #[])), (12, .v (.slice y.2.1 (castI idx).length y.2.2)), (13, .v (iv ((castI idx).length : Nat))), (14, .v (iv (k : Nat)))], [(mkC y lo.length (castI idx).length, 138)], ea1A b idx lo y c T z ++ [R]⟩
theorem each1_loop (hF : F = 59 ∨ F = 60) (hd : Does F Tf G c.n idx) {t : TS} (g : G 0 t) (hl : t.s.po.length = c.n) (hn : (castI idx).length ≤ 1000) (z0 : H2) : TY Tryd.prog 1 (.loop (loopN Tryd.prog 58 0)) (ea1S b F idx lo y c R t z0 0) H2 (.exit 0) (fun z => ea1S b F idx lo y c R (foldT Tf t idx (castI idx).length) z (castI idx).length) := by
  refine T_loop (I := {k : Nat // k ≤ (castI idx).length} × H2) (fun j => ea1S b F idx lo y c R (foldT Tf t idx j.1.1) j.2 j.1.1) (fun j => (castI idx).length - j.1.1) (by simp) _ (fun ⟨⟨k, hk⟩, z⟩ => ?_) (⟨0, Nat.zero_le _⟩, z0)
  have q := fold_keeps hd g hl k hk
  by_cases h : k < (castI idx).length
  · obtain ⟨i, hi⟩ : ∃ i, idx[k]? = some i := ⟨_, List.getElem?_eq_getElem (by rw [castI_len] at h; exact h)⟩
    obtain ⟨T, hT⟩ : ∃ T, foldT Tf t idx k = T := ⟨_, rfl⟩
    have e1 : foldT Tf t idx (k + 1) = Tf (foldT Tf t idx k) i := by
      show (match idx[k]? with | some i => _ | none => _ : TS) = _
      rw [hi]
    rw [hT] at q e1
    have ha := Meth_in ((hd k T i q.1 q.2 hi).1 c z q.2) b
    obtain ⟨T2, hT2⟩ : ∃ T2, Tf T i = T2 := ⟨_, rfl⟩
    rw [hT2] at e1 ha
    have d : decide ((k : Int) < ((castI idx).length : Int)) = true := by simp; omega
    have hlt : (castI idx).length - (k + 1) < (castI idx).length - k := by omega
    have hx := castI_at hi
    have hcl : (castI idx).length = (castI idx).length := rfl
    rcases hF with rfl | rfl
    · refine step_at (ea1S b 59 idx lo y c R T z k) (by rw [← hT]) ?_ ?_ (Nat.le_refl 1)
      exact fun go out => [.b _ _ d, oJx inE 1 y.2.1 (castI idx).length y.2.2 h hcl, oJd inE 1 y.2.1 (castI idx).length y.2.2 hx hcl, oF ha z 2 fun z1 => [.r _ _ (wrap_next h (by omega)), go (⟨k + 1, h⟩, z1) hlt (ea1S b 59 idx lo y c R T2 z1 (k + 1)) (by show _ = ea1S b 59 idx lo y c R (foldT Tf t idx (k + 1)) _ _; rw [e1])]]
      intro _ _; kernel_rfl
    · refine step_at (ea1S b 60 idx lo y c R T z k) (by rw [← hT]) ?_ ?_ (Nat.le_refl 1)
      exact fun go out => [.b _ _ d, oJx inE 1 y.2.1 (castI idx).length y.2.2 h hcl, oJd inE 1 y.2.1 (castI idx).length y.2.2 hx hcl, oF ha z 2 fun z1 => [.r _ _ (wrap_next h (by omega)), go (⟨k + 1, h⟩, z1) hlt (ea1S b 60 idx lo y c R T2 z1 (k + 1)) (by show _ = ea1S b 60 idx lo y c R (foldT Tf t idx (k + 1)) _ _; rw [e1])]]
      intro _ _; kernel_rfl
  · obtain rfl : k = (castI idx).length := by omega
    refine step_at _ rfl ?_ ?_ (Nat.le_refl 1)
    exact fun go out => [.b _ _ (show decide (((castI idx).length : Int) < ((castI idx).length : Int)) = false by simp), out z _ rfl]
    intro _ _; kernel_rfl
theorem each1_meth (hF : F = 59 ∨ F = 60) (hd : Does F Tf G c.n idx) {t : TS} (g : G 0 t) (hl : t.s.po.length = c.n) (hn : (castI idx).length ≤ 1000) (z0 : H2) : Meth Tryd.prog 58 [iv 1, .func (.func F) #[pB b] #[]] (mkC y lo.length (castI idx).length) 138 (ea1A b idx lo y c t z0) H2 (fun _ => .tuple #[]) (fun _ => mkC y lo.length (castI idx).length) (ea1A b idx lo y c (foldT Tf t idx (castI idx).length)) := by
  have hL := fun R => each1_loop b F Tf G idx lo y c R hF hd g hl hn z0
  exact ev_meth (fun R fin => [.l _ _ _ _ _ _ (hL R) fun z => [fin z]]) (fun R β w => by kernel_rfl)
end
end
section
/- Layer 18, by the evaluator: step. -/
open Go.RowKit
open Ev
set_option maxRecDepth 100000
/-- A row in a block that is owned. -/
def Ev.oBr {P : Program} {b : Nat} {cs : Array Value} {ty : TypeId} (p : Nat) (t2 : TypeId) (o : Nat) (us : List Value) (hd : rowT P t2 = true) (hs : (P.info? t2).map (·.size) = some us.length) (hc : ∀ j u, us[j]? = some u → cs[o + j]? = some u) : Ora P :=
  .x true (.s fun _ => do pure (.value (← Instr.loadAt t2 (.pointer (some ⟨b, o, none⟩))))) p [bdB b cs ty] [bdB b cs ty] (.agg us.toArray)
    (fun w0 F R β w K => by
      show stepS P _ _ w
      unfold stepS
      have h : Blk w b cs ty := K.one
      unfold rowT at hd
      split at hd
      · next d hd2 =>
        have hr : w.rangeAt b o us := fun j u hu => by rw [h.cell (o + j)]; exact hc j u hu
        have e2 := run_loadVar_mid w b o t2 us d hr hd2 hd hs
        simp only [Sem.run_bind, Sem.run_pure, Result.andThen_ok, Instr.loadAt, Instr.sureAddr, e2]
        exact ⟨trivial, K⟩
      · cases hd)
def markTo (p : Nat → Po → Bool) (l : List Po) : Nat → List Nat
 | 0 => []
 | k + 1 => match l[k]? with
  | some x => if p k x = true then markTo p l k ++ [k] else markTo p l k
  | none => markTo p l k
theorem markTo_yes {p : Nat → Po → Bool} {l : List Po} {k : Nat} {x : Po} (h : l[k]? = some x) (hp : p k x = true) : castI (markTo p l (k + 1)) = castI (markTo p l k) ++ [(k : Int)] := by
 show castI (match l[k]? with | some x => if p k x = true then markTo p l k ++ [k] else markTo p l k | none => markTo p l k) = _
 rw [h]
 show castI (if p k x = true then _ else _) = _
 rw [if_pos hp]
 simp [castI]
theorem markTo_no {p : Nat → Po → Bool} {l : List Po} {k : Nat} {x : Po} (h : l[k]? = some x) (hp : p k x = false) : castI (markTo p l (k + 1)) = castI (markTo p l k) := by
 show castI (match l[k]? with | some x => if p k x = true then markTo p l k ++ [k] else markTo p l k | none => markTo p l k) = _
 rw [h]
 show castI (if p k x = true then _ else _) = _
 rw [if_neg (by rw [hp]; decide)]
theorem markTo_lt {p : Nat → Po → Bool} {l : List Po} : ∀ k, (∀ i ∈ markTo p l k, i < k) ∧ (markTo p l k).length ≤ k
 | 0 => ⟨fun i h => by (cases h), Nat.le_refl _⟩
 | k + 1 => by
  have a := markTo_lt (p := p) (l := l) k
  have b : markTo p l (k + 1) = markTo p l k ++ [k] ∨ markTo p l (k + 1) = markTo p l k := by
   show (match l[k]? with | some x => if p k x = true then markTo p l k ++ [k] else markTo p l k | none => markTo p l k) = _ ∨ (match l[k]? with | some x => if p k x = true then markTo p l k ++ [k] else markTo p l k | none => markTo p l k) = _
   split
   ·
    split
    ·
     exact .inl rfl
    ·
     exact .inr rfl
   ·
    exact .inr rfl
  rcases b with b | b
  ·
   rw [b]
   refine ⟨fun i hi => ?_, by simp; exact a.2⟩
   rcases List.mem_append.1 hi with q | q
   ·
    have := a.1 i q; omega
   ·
    rw [List.mem_singleton.1 q]; omega
  ·
   rw [b]
   exact ⟨fun i hi => by have := a.1 i hi; omega, by have := a.2; omega⟩
theorem changedM_is (t : TS) (i : Nat) : (changedM t i).s.po.length = t.s.po.length ∧ (changedM t i).s.cf = t.s.cf ∧ (changedM t i).fl.length ≤ t.fl.length + t.s.po.length ∧ (changedM t i).told = t.told := by
 unfold changedM
 cases c : t.s.po[i]? with
 | none => exact ⟨rfl, rfl, Nat.le_add_right _ _, rfl⟩
 | some x =>
  show (if edgeB x = true then t else chgTo (twoH t) i (t.setPo (t.s.po.set i (chP x (twoH t)))) t.s.po.length).s.po.length = _ ∧ (if edgeB x = true then t else chgTo (twoH t) i (t.setPo (t.s.po.set i (chP x (twoH t)))) t.s.po.length).s.cf = _ ∧ (if edgeB x = true then t else chgTo (twoH t) i (t.setPo (t.s.po.set i (chP x (twoH t)))) t.s.po.length).fl.length ≤ _ ∧ (if edgeB x = true then t else chgTo (twoH t) i (t.setPo (t.s.po.set i (chP x (twoH t)))) t.s.po.length).told = _
  split
  ·
   exact ⟨rfl, rfl, Nat.le_add_right _ _, rfl⟩
  ·
   have q := chgTo_is (twoH t) i (t.setPo (t.s.po.set i (chP x (twoH t)))) t.s.po.length
   refine ⟨q.1.trans ?_, q.2.1, q.2.2.1, q.2.2.2⟩
   show (t.s.po.set i _).length = _
   rw [List.length_set]
theorem foldChanged_is (t : TS) (idx : List Nat) : ∀ j, (foldT changedM t idx j).s.po.length = t.s.po.length ∧ (foldT changedM t idx j).s.cf = t.s.cf ∧ (foldT changedM t idx j).fl.length ≤ t.fl.length + j * t.s.po.length ∧ (foldT changedM t idx j).told = t.told
 | 0 => ⟨rfl, rfl, by show t.fl.length ≤ _; omega, rfl⟩
 | j + 1 => by
  have a := foldChanged_is t idx j
  show (match idx[j]? with | some i => changedM (foldT changedM t idx j) i | none => foldT changedM t idx j).s.po.length = _ ∧ (match idx[j]? with | some i => changedM (foldT changedM t idx j) i | none => foldT changedM t idx j).s.cf = _ ∧ (match idx[j]? with | some i => changedM (foldT changedM t idx j) i | none => foldT changedM t idx j).fl.length ≤ _ ∧ (match idx[j]? with | some i => changedM (foldT changedM t idx j) i | none => foldT changedM t idx j).told = _
  have e : (j + 1) * t.s.po.length = j * t.s.po.length + t.s.po.length := by rw [Nat.succ_mul]
  split
  ·
   rename_i i _
   have b := changedM_is (foldT changedM t idx j) i
   refine ⟨b.1.trans a.1, b.2.1.trans a.2.1, ?_, b.2.2.2.trans a.2.2.2⟩
   have h1 := b.2.2.1
   have h2 := a.2.2.1
   rw [a.1] at h1
   omega
  ·
   exact ⟨a.1, a.2.1, by have := a.2.2.1; omega, a.2.2.2⟩
def stF (dl : Int) (_ : Nat) (x : Po) : Po := stepP x dl
def opF (dl : Int) (_ : Nat) (x : Po) : Bool := openedB x (stepP x dl)
def stepMM (t : TS) : TS := foldT changedM (mapTo (stF t.s.cf.p3) t t.s.po.length) (markTo (opF t.s.cf.p3) t.s.po t.s.po.length) (markTo (opF t.s.cf.p3) t.s.po t.s.po.length).length
theorem cf_row : rowT Tryd.prog 31 = true := by kernel_rfl
theorem cf_size : (Tryd.prog.info? 31).map (·.size) = some 6 := by kernel_rfl
theorem ac_cf (t : TS) (c : Hp) (y : H2) : ∀ j u, (cfC t.s.cf)[j]? = some u → (acA t c y)[0 + j]? = some u := fun j u h => by
  have hj : j < (cfC t.s.cf).length := (List.getElem?_eq_some_iff.1 h).1
  unfold acA stL
  rw [Nat.zero_add, List.getElem?_toArray, List.append_assoc, List.getElem?_append_left hj, h]
section
variable (b : Nat) (t : TS) (c : Hp) (R : Bd)
def stS (T : TS) (l0 : List Int) (h0 : Hd) (z : H2) (k : Nat) : Ev.St := ⟨sp 43 [(0, .v (pB b)), (2, .p 0 0), (11, .v (.slice c.a c.n c.m)), (12, .v (iv (c.n : Nat))), (13, .v (iv (k : Nat)))], [(mkC (h0, (none, 0)) l0.length 0, 138)], mkO (h0, (none, 0)) l0 [] ++ bdB b (acA T c z) 112 :: acO T c z ++ [R]⟩
def stT (k : Nat) : TS := mapTo (stF t.s.cf.p3) t k
def stM (k : Nat) : List Int := castI (markTo (opF t.s.cf.p3) t.s.po k)
theorem step_loop (hl : t.s.po.length = c.n) (hn : c.n ≤ 1000) (z : H2) : TY Tryd.prog 0 (.loop (loopN Tryd.prog 35 0)) (stS b c R t [] (none, 0) z 0) Hd (.exit 0) (fun h => stS b c R (stT t c.n) (stM t c.n) h z c.n) := by
  refine T_loop (I := {k : Nat // k ≤ c.n} × Hd) (fun j => stS b c R (stT t j.1.1) (stM t j.1.1) j.2 z j.1.1) (fun j => c.n - j.1.1) (by simp) _ (fun ⟨⟨k, hk⟩, h0⟩ => ?_) (⟨0, Nat.zero_le _⟩, (none, 0))
  have f := mapTo_is (stF t.s.cf.p3) t k
  have e1 : stT t (k + 1) = mapStep (stF t.s.cf.p3) (stT t k) k := rfl
  by_cases h : k < c.n
  · obtain ⟨T, hT⟩ : ∃ T, stT t k = T := ⟨_, rfl⟩
    have hx0 : (stT t k).s.po[k]? = t.s.po[k]? := by unfold stT; rw [mapTo_get, if_neg (Nat.lt_irrefl _)]
    have f : T.s.po.length = t.s.po.length ∧ T.s.cf = t.s.cf := by rw [← hT]; exact ⟨f.1, f.2.1⟩
    rw [hT] at e1 hx0
    have hlT : T.s.po.length = c.n := f.1.trans hl
    obtain ⟨x, hx⟩ : ∃ x, T.s.po[k]? = some x := ⟨_, List.getElem?_eq_getElem (by omega)⟩
    have hxt : t.s.po[k]? = some x := by rw [← hx0]; exact hx
    have d : decide ((k : Int) < (c.n : Int)) = true := by simp; omega
    have hlt : c.n - (k + 1) < c.n - k := by omega
    rw [mapStep_some hx] at e1
    obtain ⟨M, hM⟩ : ∃ M, stM t k = M := ⟨_, rfl⟩
    have hml : M.length ≤ 1900 := by rw [← hM]; unfold stM; rw [castI_len]; have := (markTo_lt (p := opF t.s.cf.p3) (l := t.s.po) k).2; omega
    have e3 : stF t.s.cf.p3 k x = stepP x T.s.cf.p3 := by rw [f.2]; rfl
    rw [e3] at e1
    cases hop : openedB x (stepP x T.s.cf.p3)
    · have e2 : stM t (k + 1) = M := by rw [← hM]; exact markTo_no hxt (by show openedB x (stepP x t.s.cf.p3) = false; rw [← f.2]; exact hop)
      refine step_at (stS b c R T M h0 z k) (by rw [← hT, ← hM]) ?_ ?_ (Nat.zero_le _)
      exact fun go out => [.b _ _ d, oJx poE 3 c.a c.n c.m h hlT, oJd poE 3 c.a c.n c.m hx hlT, oBr (b := b) (cs := acA T c z) (ty := 112) 2 31 0 (cfC T.s.cf) cf_row cf_size (ac_cf T c z), .c _ _ _ (hop ▸ step_any x T.s.cf),
        oBl (b := b) (cs := acA T c z) (ty := 112) 2 32 6 (.slice c.a c.n c.m) rfl plain32, oJx poE 3 c.a c.n c.m h hlT, oJt poE 3 c.a c.n c.m (stepP x T.s.cf.p3) h hlT rfl,
        oM (mark_no 0 k (h0, (none, 0)) M []) 0 0 fun _ => [.r _ _ (wrap_next h (by omega)), go (⟨k + 1, h⟩, h0) hlt (stS b c R (T.setPo (T.s.po.set k (stepP x T.s.cf.p3))) M h0 z (k + 1)) (by show _ = stS b c R (stT t (k + 1)) (stM t (k + 1)) _ _ _; rw [e1, e2])]]
      intro _ _; kernel_rfl
    · have e2 : stM t (k + 1) = M ++ [(k : Int)] := by rw [← hM]; exact markTo_yes hxt (by show openedB x (stepP x t.s.cf.p3) = true; rw [← f.2]; exact hop)
      refine step_at (stS b c R T M h0 z k) (by rw [← hT, ← hM]) ?_ ?_ (Nat.zero_le _)
      exact fun go out => [.b _ _ d, oJx poE 3 c.a c.n c.m h hlT, oJd poE 3 c.a c.n c.m hx hlT, oBr (b := b) (cs := acA T c z) (ty := 112) 2 31 0 (cfC T.s.cf) cf_row cf_size (ac_cf T c z), .c _ _ _ (hop ▸ step_any x T.s.cf),
        oBl (b := b) (cs := acA T c z) (ty := 112) 2 32 6 (.slice c.a c.n c.m) rfl plain32, oJx poE 3 c.a c.n c.m h hlT, oJt poE 3 c.a c.n c.m (stepP x T.s.cf.p3) h hlT rfl,
        oM (mark0_yes k (h0, (none, 0)) M [] hml) 0 0 fun h1 => [.r _ _ (wrap_next h (by omega)), go (⟨k + 1, h⟩, h1) hlt (stS b c R (T.setPo (T.s.po.set k (stepP x T.s.cf.p3))) (M ++ [(k : Int)]) h1 z (k + 1)) (by show _ = stS b c R (stT t (k + 1)) (stM t (k + 1)) _ _ _; rw [e1, e2])]]
      intro _ _; kernel_rfl
  · obtain rfl : k = c.n := by omega
    refine step_at _ rfl ?_ ?_ (Nat.zero_le _)
    exact fun go out => [.b _ _ (show decide ((c.n : Int) < (c.n : Int)) = false by simp), out h0 _ rfl]
    intro _ _; kernel_rfl
end
end
end Go.Proofs.YtebnpblincgjlaaDoor
section
/- Layer 18, by the evaluator: step, whole. -/
namespace Go.Proofs.YtebnpblincgjlaaDoor
open Go.RowKit
open Ev
set_option maxRecDepth 100000
namespace Ev
theorem drop_one {X : Bd} {A : Bds} {w0 w : World} {F : Fm} {R : Bd} (K : Kf w0 F ((sepL (X :: A)).sep R) w) : Kf w0 F ((sepL A).sep R) w :=
  ⟨K.all, K.below, K.new, K.inj, ⟨K.a.1.2.1, K.a.2.1, fun k hk => K.a.2.2 k (.inr hk)⟩, fun l x h hf => K.ap l x h (hf.elim (fun q => .inl (.inr q)) .inr), fun k hk => K.nw k (hk.elim (fun q => .inl (.inr q)) .inr), by
    have : max (max X.lo (sepL A).lo) R.lo ≤ w0.heap.size := K.lo
    show max (sepL A).lo R.lo ≤ _
    omega⟩
theorem Meth.drop {P : Program} {f : FuncId} {args : List Value} {cs : Array Value} {ty : TypeId} {A : Bds} {Y : Type} {v : Y → Value} {cs' : Y → Array Value} {A' : Y → Bds} {X : Y → Bd} (h : Meth P f args cs ty A Y v cs' (fun y => X y :: A' y)) : Meth P f args cs ty A Y v cs' A' :=
  fun w0 F R k b w hF K => (h w0 F R k b w hF K).mono fun e w' ⟨y, e1, e2⟩ => ⟨y, e1, drop_one e2⟩
end Ev
theorem each0_drop {b : Nat} {F : FuncId} {Tf : TS → Nat → TS} {G : Nat → TS → Prop} {idx : List Nat} {lo : List Int} {y : H2} {c : Hp} (hF : F = 59 ∨ F = 60) (hd : Does F Tf G c.n idx) {t : TS} (g : G 0 t) (hl : t.s.po.length = c.n) (hn : (castI idx).length ≤ 1000) (z0 : H2) : Meth Tryd.prog 58 [iv 0, .func (.func F) #[pB b] #[]] (mkC y (castI idx).length lo.length) 138 (ea0A b idx lo y c t z0) H2 (fun _ => .tuple #[]) (fun _ => mkC y (castI idx).length lo.length) (fun z => bdB b (acA (foldT Tf t idx (castI idx).length) c z) 112 :: acO (foldT Tf t idx (castI idx).length) c z) :=
  (Meth.drop (Meth.drop (each0_meth b F Tf G idx lo y c hF hd g hl hn z0)))
theorem changed_does {n : Nat} {idx : List Nat} {f0 : Nat} (hi : ∀ i ∈ idx, i < n) (hn : n ≤ 1000) (hx : idx.length ≤ n) (hf : f0 + (n + 1) * n ≤ 1900) : Does 59 changedM (fun k T => T.fl.length ≤ f0 + k * n) n idx := by
  intro k T i hG hl hk
  have hin := hi i (List.mem_of_getElem? hk)
  have hkl := (List.getElem?_eq_some_iff.1 hk).1
  have b := changedM_is T i
  have e : (k + 1) * n = k * n + n := by rw [Nat.succ_mul]
  have e2 : k * n + n ≤ (n + 1) * n := by rw [← e]; exact Nat.mul_le_mul_right n (by omega)
  obtain ⟨x, hx⟩ : ∃ x, T.s.po[i]? = some x := ⟨_, List.getElem?_eq_getElem (by omega)⟩
  refine ⟨changed_acts hx (by omega) (by omega), ?_, b.1.trans hl⟩
  have := b.2.2.1
  show (changedM T i).fl.length ≤ _
  omega
theorem step_acts {t : TS} (hn : t.s.po.length ≤ 1000) (hf : t.fl.length + (t.s.po.length + 1) * t.s.po.length ≤ 1900) : Acts 112 35 [] t (stepMM t) := by
  intro c y hl
  have hl : t.s.po.length = c.n := hl
  have hm := mapTo_is (stF t.s.cf.p3) t t.s.po.length
  have hlt := markTo_lt (p := opF t.s.cf.p3) (l := t.s.po) t.s.po.length
  have hd := changed_does (n := c.n) (idx := markTo (opF t.s.cf.p3) t.s.po t.s.po.length) (f0 := t.fl.length) (fun i hi => by have := hlt.1 i hi; omega) (by omega) (by omega) (by rw [← hl]; exact hf)
  have e0 : stepMM t = foldT changedM (mapTo (stF t.s.cf.p3) t c.n) (markTo (opF t.s.cf.p3) t.s.po c.n) (castI (markTo (opF t.s.cf.p3) t.s.po c.n)).length := by
    rw [castI_len, ← hl]
    rfl
  rw [e0]
  rw [hl] at hm hd hlt
  refine Meth_out fun b => ?_
  have he := fun h0 : Hd => each0_drop (b := b) (y := (h0, (none, 0))) (lo := []) (c := c) (.inl rfl) hd (t := mapTo (stF t.s.cf.p3) t c.n) (by show _ ≤ _; rw [hm.2.2.1]; omega) hm.1 (by rw [castI_len]; omega) y
  exact ev_fun (fun R fin => [.a 0 _ _ (nil_own 3 1 inC []), .a 0 _ _ (nil_own 3 1 inC []), oBl (b := b) (cs := acA t c y) (ty := 112) 2 32 6 (.slice c.a c.n c.m) rfl plain32, .l _ _ _ _ _ _ (step_loop b t c R hl (by omega) y) fun h0 => [oM (he h0) 0 0 fun z => [fin z]]]) (fun R β w => by kernel_rfl)
end Go.Proofs.YtebnpblincgjlaaDoor
end
namespace Go.Proofs.YtebnpblincgjlaaDoor
section
/- Layer 18, by the evaluator: choose, its ports. -/
open Go.RowKit
open Ev
set_option maxRecDepth 100000
def vecN (x : Po) : Vc := ⟨x.p13.toNat, x.p14.toNat, x.p15.toNat, x.p16.toNat⟩
structure okP (x : Po) : Prop where
 r : 0 ≤ x.p13 ∧ x.p13 < 18446744073709551616
 c : 0 ≤ x.p14 ∧ x.p14 < 4294967296
 b : 0 ≤ x.p15 ∧ x.p15 < 18446744073709551616
 p : 0 ≤ x.p16 ∧ x.p16 < 65536
 k : 0 ≤ x.p3 ∧ x.p3 < 4294967296
def rpN (x : Po) (k : Nat) : Rp := ⟨onP x, decide (x.p12 = 2), vecN x, x.p3.toNat, (idP x ((k : Int) + 1)).toNat⟩
def rpTo (l : List Po) : Nat → List Rp
 | 0 => []
 | k + 1 => match l[k]? with
  | some x => rpTo l k ++ [rpN x k]
  | none => rpTo l k
theorem rpTo_step {l : List Po} {k : Nat} {x : Po} (h : l[k]? = some x) : rpTo l (k + 1) = rpTo l k ++ [rpN x k] := by
 show (match l[k]? with | some x => rpTo l k ++ [rpN x k] | none => rpTo l k) = _
 rw [h]
theorem rpTo_len {l : List Po} : ∀ k, k ≤ l.length → (rpTo l k).length = k
 | 0, _ => rfl
 | k + 1, h => by
  rw [rpTo_step (List.getElem?_eq_getElem (show k < l.length by omega)), List.length_append, rpTo_len k (by omega)]
  rfl
theorem okP_is {x : Po} (h : okP x) : x = { x with p3 := ((x.p3.toNat : Nat) : Int), p13 := ((vecN x).r : Nat), p14 := ((vecN x).c : Nat), p15 := ((vecN x).b : Nat), p16 := ((vecN x).p : Nat) } := by
 obtain ⟨⟨a, -⟩, ⟨b, -⟩, ⟨c, -⟩, ⟨d, -⟩, ⟨e, -⟩⟩ := h
 cases x
 simp only [vecN] at *
 simp only [Int.toNat_of_nonneg a, Int.toNat_of_nonneg b, Int.toNat_of_nonneg c, Int.toNat_of_nonneg d, Int.toNat_of_nonneg e]
theorem idP_is (x : Po) (n : Int) : 0 ≤ idP x n ∧ idP x n < 65536 := by
 unfold idP
 simp only [IntKind.wrap, IntKind.bits, IntKind.signed]
 simp
 omega
def normP (x : Po) : Po := { x with p3 := ((x.p3.toNat : Nat) : Int), p13 := ((vecN x).r : Nat), p14 := ((vecN x).c : Nat), p15 := ((vecN x).b : Nat), p16 := ((vecN x).p : Nat) }
theorem id_nat (x : Po) (n : Int) (w : World) : Calls Tryd.prog 21 #[poV x, .int .i64 n] w fun e w' => e = .returned (.int .u16 ((idP x n).toNat : Nat)) ∧ Below w.heap.size w w' := by
  rw [Int.toNat_of_nonneg (idP_is x n).1]
  exact id_any x n w
section
variable (b : Nat) (t : TS) (c : Hp) (y : H2) (R : Bd)
def c0S (h : Hd) (k : Nat) : Ev.St := ⟨sp 102 [(0, .v (pB b)), (2, .v (.slice h.1 k h.2)), (16, .v (.slice c.a c.n c.m)), (17, .v (iv (c.n : Nat))), (18, .v (iv (k : Nat)))], [], bdO 76 8 rpC (.slice h.1 k h.2) (rpTo t.s.po k) :: bdB b (acA t c y) 112 :: acO t c y ++ [R]⟩
theorem ports_loop (hl : t.s.po.length = c.n) (hn : c.n ≤ 1000) (hok : ∀ (k : Nat) (x : Po), t.s.po[k]? = some x → okP x) : TY Tryd.prog 0 (.loop (loopN Tryd.prog 31 0)) (c0S b t c y R (none, 0) 0) Hd (.exit 0) (fun h => c0S b t c y R h c.n) := by
  refine T_loop (I := {k : Nat // k ≤ c.n} × Hd) (fun j => c0S b t c y R j.2 j.1.1) (fun j => c.n - j.1.1) (by simp) _ (fun ⟨⟨k, hk⟩, h0⟩ => ?_) (⟨0, Nat.zero_le _⟩, (none, 0))
  by_cases h : k < c.n
  · obtain ⟨x, hx⟩ : ∃ x, t.s.po[k]? = some x := ⟨_, List.getElem?_eq_getElem (by omega)⟩
    have hx2 : t.s.po[k]? = some (normP x) := by rw [hx]; exact congrArg some (okP_is (hok k x hx))
    have e1 := rpTo_step hx
    have d : decide ((k : Int) < (c.n : Int)) = true := by simp; omega
    have hlt : c.n - (k + 1) < c.n - k := by omega
    have hrl := rpTo_len (l := t.s.po) k (by omega)
    refine step_at (c0S b t c y R h0 k) rfl ?_ ?_ (Nat.zero_le _)
    exact fun go out => [.b _ _ d, oJx poE 2 c.a c.n c.m h hl, oJd poE 2 c.a c.n c.m hx2 hl, .c _ _ _ (on_any (normP x)), .r _ _ (wrap_i h (by omega)), .c _ _ _ (id_nat (normP x) ((k : Int) + 1)),
      oAp rpE 67 0 1 #[false, false] (.slice h0.1 k h0.2) (rpTo t.s.po k) [rpN x k] (k + 1) (by rw [hrl]; rfl) (by omega) fun h1 => [.r _ _ (wrap_next h (by omega)), go (⟨k + 1, h⟩, h1) hlt ⟨sp 102 [(0, .v (pB b)), (2, .v (.slice h1.1 (k + 1) h1.2)), (16, .v (.slice c.a c.n c.m)), (17, .v (iv (c.n : Nat))), (18, .v (iv ((k + 1 : Nat) : Int)))], [], bdO 76 8 rpC (.slice h1.1 (k + 1) h1.2) (rpTo t.s.po k ++ [rpN x k]) :: bdB b (acA t c y) 112 :: acO t c y ++ [R]⟩ (by unfold c0S; rw [e1])]]
    intro _ _; kernel_rfl
  · obtain rfl : k = c.n := by omega
    refine step_at _ rfl ?_ ?_ (Nat.zero_le _)
    exact fun go out => [.b _ _ (show decide ((c.n : Int) < (c.n : Int)) = false by simp), out h0 _ rfl]
    intro _ _; kernel_rfl
end
def selfN (t : TS) : Nat := t.s.cf.p0.toNat
def rpsOf (t : TS) : List Rp := rpTo t.s.po t.s.po.length
def bestOf (t : TS) : Option (Nat × Rp) := bestU (selfN t) (rpsOf t) t.s.po.length
def rolesOf (t : TS) : List Int := rolesE (selfN t) (rootN (selfN t) (bestOf t)) (costN (selfN t) (bestOf t)) (portN (selfN t) (bestOf t)) (rpsOf t) t.s.po.length
def tellsOf (t : TS) : List Vc := tellsK (selfN t) (rootN (selfN t) (bestOf t)) (costN (selfN t) (bestOf t)) (rpsOf t) t.s.po.length
def asF (t : TS) (k : Nat) (x : Po) : Po := assumeP x (vecN x) ((rolesOf t).getD k 0) ((tellsOf t).getD k ⟨0, 0, 0, 0⟩) t.s.cf.p3
def anewF (t : TS) (k : Nat) (x : Po) : Bool := assumeN x (vecN x) ((rolesOf t).getD k 0) ((tellsOf t).getD k ⟨0, 0, 0, 0⟩)
def openF (t : TS) (k : Nat) (x : Po) : Bool := openedB x (asF t k x)
def chooseM (t : TS) : TS :=
 let t1 := mapTo (asF t) t t.s.po.length
 let o := markTo (openF t) t.s.po t.s.po.length
 let a := markTo (anewF t) t.s.po t.s.po.length
 foldT tellM (foldT changedM t1 o o.length) a a.length
theorem roleN_is (self : Nat) (v : Vc) (x : Rp) : 0 ≤ roleN self v x ∧ roleN self v x ≤ 4 := by
 unfold roleN
 split
 ·
  split
  ·
   split <;> omega
  ·
   omega
 ·
  omega
theorem rolesE_is {self R C : Nat} {P : Int} {l : List Rp} {n : Nat} : ∀ r ∈ rolesE self R C P l n, 0 ≤ r ∧ r ≤ 4 := by
 have hk : ∀ r ∈ rolesK self R C l n, 0 ≤ r ∧ r ≤ 4 := fun r hr => by
  unfold rolesK at hr
  obtain ⟨x, -, rfl⟩ := List.mem_map.1 hr
  exact roleN_is _ _ _
 intro r hr
 unfold rolesE at hr
 split at hr
 ·
  rcases List.mem_or_eq_of_mem_set hr with q | q
  ·
   exact hk r q
  ·
   rw [q]; omega
 ·
  exact hk r hr
theorem rolesOf_is (t : TS) (k : Nat) : 0 ≤ (rolesOf t).getD k 0 ∧ (rolesOf t).getD k 0 ≤ 4 := by
 rw [List.getD_eq_getElem?_getD]
 cases c : (rolesOf t)[k]? with
 | none => exact ⟨Int.le_refl _, by decide⟩
 | some r => exact rolesE_is r (List.mem_of_getElem? c)
theorem assume_role (x : Po) (u : Vc) (r : Int) (v : Vc) (dl : Int) : (assumeP x u r v dl).p10 = r := by
 unfold assumeP
 split
 ·
  rfl
 ·
  split
  ·
   split <;> rfl
  ·
   split
   ·
    rename_i h; exact h.symm
   ·
    rfl
def sameBut (l l' : List Po) : Prop := l.length = l'.length ∧ ∀ (j : Nat) (x : Po), l[j]? = some x → ∃ y : Po, l'[j]? = some y ∧ ∃ h, y = chP x h
theorem sameBut.refl (l : List Po) : sameBut l l := ⟨rfl, fun j x hx => ⟨x, hx, x.p20, rfl⟩⟩
theorem sameBut.trans {a b c : List Po} (h : sameBut a b) (k : sameBut b c) : sameBut a c := ⟨h.1.trans k.1, fun j x hx => by
 obtain ⟨y, hy, p, rfl⟩ := h.2 j x hx
 obtain ⟨z, hz, q, rfl⟩ := k.2 j _ hy
 exact ⟨_, hz, q, rfl⟩⟩
theorem sameBut.set {l : List Po} {k : Nat} {x : Po} (hx : l[k]? = some x) (h : Int) : sameBut l (l.set k (chP x h)) := by
 refine ⟨by rw [List.length_set], fun j y hy => ?_⟩
 by_cases e : k = j
 ·
  subst e
  rw [hx] at hy
  injection hy with hy
  subst hy
  exact ⟨_, List.getElem?_set_self (List.getElem?_eq_some_iff.1 hx).1, h, rfl⟩
 ·
  exact ⟨y, by rw [List.getElem?_set_ne e]; exact hy, y.p20, rfl⟩
theorem chgTo_same (h : Int) (i : Nat) (t : TS) : ∀ k, sameBut t.s.po (chgTo h i t k).s.po
 | 0 => sameBut.refl _
 | k + 1 => by
  refine (chgTo_same h i t k).trans ?_
  show sameBut _ (chgStep h i (chgTo h i t k) k).s.po
  generalize chgTo h i t k = t2
  unfold chgStep
  cases c : t2.s.po[k]? with
  | none => exact sameBut.refl _
  | some x =>
   show sameBut t2.s.po (if k = i ∨ innerB x = false then t2 else (if linkB x = true then t2.setPo (t2.s.po.set k (chP x h)) else t2).flush ((k : Int) + 1)).s.po
   split
   ·
    exact sameBut.refl _
   ·
    split
    ·
     exact sameBut.set c h
    ·
     exact sameBut.refl _
theorem changedM_same (t : TS) (i : Nat) : sameBut t.s.po (changedM t i).s.po := by
 unfold changedM
 cases c : t.s.po[i]? with
 | none => exact sameBut.refl _
 | some x =>
  show sameBut t.s.po (if edgeB x = true then t else chgTo (twoH t) i (t.setPo (t.s.po.set i (chP x (twoH t)))) t.s.po.length).s.po
  split
  ·
   exact sameBut.refl _
  ·
   exact (sameBut.set c (twoH t)).trans (chgTo_same (twoH t) i (t.setPo (t.s.po.set i (chP x (twoH t)))) _)
theorem foldChanged_same (t : TS) (idx : List Nat) : ∀ j, sameBut t.s.po (foldT changedM t idx j).s.po
 | 0 => sameBut.refl _
 | j + 1 => by
  refine (foldChanged_same t idx j).trans ?_
  show sameBut _ (match idx[j]? with | some i => changedM (foldT changedM t idx j) i | none => foldT changedM t idx j).s.po
  split
  ·
   exact changedM_same _ _
  ·
   exact sameBut.refl _
theorem foldTell_is (t : TS) (idx : List Nat) : ∀ j, (foldT tellM t idx j).s = t.s ∧ (foldT tellM t idx j).fl = t.fl ∧ (foldT tellM t idx j).told.length ≤ t.told.length + j
 | 0 => ⟨rfl, rfl, Nat.le_refl _⟩
 | j + 1 => by
  have a := foldTell_is t idx j
  show (match idx[j]? with | some i => tellM (foldT tellM t idx j) i | none => foldT tellM t idx j).s = _ ∧ (match idx[j]? with | some i => tellM (foldT tellM t idx j) i | none => foldT tellM t idx j).fl = _ ∧ (match idx[j]? with | some i => tellM (foldT tellM t idx j) i | none => foldT tellM t idx j).told.length ≤ _
  split
  ·
   rename_i i _
   have b := tellM_is (foldT tellM t idx j) i
   exact ⟨b.1.trans a.1, b.2.1.trans a.2.1, by have := a.2.2; have := b.2.2; omega⟩
  ·
   exact ⟨a.1, a.2.1, by have := a.2.2; omega⟩
end
end Go.Proofs.YtebnpblincgjlaaDoor
