import Derived.Test.YtebnpblincgjlaaDoorG12
set_option linter.unusedSimpArgs false
set_option linter.unusedVariables false
namespace Go.Proofs.YtebnpblincgjlaaDoor
section
/- Layer 15, by the evaluator: the choice. -/
open Go.RowKit
open Ev
set_option maxRecDepth 100000
theorem inE : ElV Tryd.prog 45 3 1 inC (fun x => .int .i64 x) := ⟨inT, by kernel_rfl, fun x => by simp [Value.cells, inC], .inr ⟨by kernel_rfl, rfl, fun x => rfl⟩⟩
def vcC (x : Vc) : List Value := (vcA x).toList
theorem vc_info : ∃ i z b, Tryd.prog.info? 71 = some i ∧ i.zero = some z ∧ i.size = 4 ∧ i.bytes = b ∧ z.cells.size = 4 ∧ b ≤ 1000 := by
  refine ⟨_, _, _, rfl, rfl, rfl, rfl, rfl, by decide⟩
theorem vcT : ElT Tryd.prog 77 71 4 vcC := ⟨Tryd.underlying77, vc_info, by decide, fun _ => rfl, fun x u hu => by simp [vcC] at hu; rcases hu with rfl | rfl | rfl | rfl <;> rfl⟩
theorem vcE : ElV Tryd.prog 77 71 4 vcC vcV := ⟨vcT, by kernel_rfl, fun x => by simp [Value.cells, vcC], .inl ⟨by kernel_rfl, fun x => by simp [vcC]⟩⟩
def chA (R C : Nat) (P : Int) (v1 v2 : Value) : Array Value := #[.int .u64 (R : Nat), .int .u32 (C : Nat), .int .i64 P, v1, v2]
def tellsV (self R C : Nat) (x : Rp) : Vc := ⟨R, C, self, x.i⟩
def rolesK (self R C : Nat) (l : List Rp) (k : Nat) : List Int := (l.take k).map fun x => roleN self (tellsV self R C x) x
def tellsK (self R C : Nat) (l : List Rp) (k : Nat) : List Vc := (l.take k).map (tellsV self R C)
theorem tk_step {α β : Type} (f : α → β) {l : List α} {k : Nat} {y : α} (h : l[k]? = some y) : (l.take k).map f ++ [f y] = (l.take (k + 1)).map f := by
  rw [List.take_add_one, h, List.map_append]; rfl
theorem tk_len {α β : Type} (f : α → β) {l : List α} {k : Nat} (h : k ≤ l.length) : ((l.take k).map f).length = k := by rw [List.length_map, List.length_take]; omega
def rolesE (self R C : Nat) (P : Int) (l : List Rp) (n : Nat) : List Int := if 0 < P then (rolesK self R C l n).set (P - 1).toNat 3 else rolesK self R C l n
def rootN (self : Nat) : Option (Nat × Rp) → Nat
  | none => self
  | some y => if y.2.v.r < self then y.2.v.r else self
def costN (self : Nat) : Option (Nat × Rp) → Nat
  | none => 0
  | some y => if y.2.v.r < self then (plusV y.2.v y.2.c).c else 0
def portN (self : Nat) : Option (Nat × Rp) → Int
  | none => 0
  | some y => if y.2.v.r < self then (y.1 : Int) + 1 else 0
section
variable (self : Nat) (l : List Rp) (a : Option Addr) (n m : Nat) (R : Bd) (Ro C : Nat) (P : Int)
abbrev Hd := Option Addr × Nat
def chS (L1 : List Int) (L2 : List Vc) (h1 h2 : Hd) (k : Nat) : Ev.St := ⟨sp 76 [(0, .v (.int .u64 (self : Nat))), (4, .p 0 0), (5, .p 1 0), (36, .v (.slice a n m)), (37, .v (iv (n : Nat))), (38, .v (iv (k : Nat)))], [(nilCh, 79), (chA Ro C P (.slice h1.1 k h1.2) (.slice h2.1 k h2.2), 79)], [bdO 76 8 rpC (.slice a n m) l, bdO 3 1 inC (.slice h1.1 k h1.2) L1, bdO 71 4 vcC (.slice h2.1 k h2.2) L2, R]⟩
theorem choose_loop (hl : l.length = n) (hn : n ≤ 1000) : TY Tryd.prog 0 (.loop (loopN Tryd.prog 22 0)) (chS self l a n m R Ro C P [] [] (none, 0) (none, 0) 0) (Hd × Hd) (.exit 0) (fun y => chS self l a n m R Ro C P (rolesK self Ro C l n) (tellsK self Ro C l n) y.1 y.2 n) := by
  refine T_loop (I := {k : Nat // k ≤ n} × Hd × Hd) (fun i => chS self l a n m R Ro C P (rolesK self Ro C l i.1.1) (tellsK self Ro C l i.1.1) i.2.1 i.2.2 i.1.1) (fun i => n - i.1.1) (by simp) _ (fun ⟨⟨k, hk⟩, v1, v2⟩ => ?_) (⟨0, Nat.zero_le _⟩, (none, 0), (none, 0))
  have l1 : (rolesK self Ro C l k).length = k := tk_len _ (by omega)
  have l2 : (tellsK self Ro C l k).length = k := tk_len _ (by omega)
  by_cases h : k < n
  · obtain ⟨x, hx⟩ : ∃ x, l[k]? = some x := ⟨_, List.getElem?_eq_getElem (by omega)⟩
    refine LP_own (k := k) 0 rfl (by omega) fun ⟨g, hg⟩ => ?_
    subst hg
    have d : decide ((k : Int) < (n : Int)) = true := by simp; omega
    have e1 := tk_step (fun x => roleN self (tellsV self Ro C x) x) hx
    have e2 := tk_step (tellsV self Ro C) hx
    refine step_at _ rfl ?_ ?_
    exact fun go out => [.b _ _ d, oIx rpE g n m h, oLd rpE 0 g n m hx hl, .c _ _ _ (role_any self (tellsV self Ro C x) x),
      oAp inE 45 1 4 #[false, false] (.slice v1.1 k v1.2) (rolesK self Ro C l k) [roleN self (tellsV self Ro C x) x] (k + 1) (by rw [l1]; rfl) (by omega) fun y1 => [
      oAp vcE 77 2 5 #[false, false] (.slice v2.1 k v2.2) (tellsK self Ro C l k) [tellsV self Ro C x] (k + 1) (by rw [l2]; rfl) (by omega) fun y2 => [.r _ _ (wrap_next h (by omega)),
      go (⟨k + 1, h⟩, y1, y2) (by show n - (k + 1) < n - k; omega) (chS self l (some ⟨g, 0, none⟩) n m R Ro C P (rolesK self Ro C l k ++ [roleN self (tellsV self Ro C x) x]) (tellsK self Ro C l k ++ [tellsV self Ro C x]) y1 y2 (k + 1)) (by unfold rolesK tellsK; rw [e1, e2])]]]
    intro _ _; kernel_rfl
  · obtain rfl : k = n := by omega
    refine step_at _ rfl ?_ ?_
    exact fun go out => [.b _ _ (show decide ((k : Int) < (k : Int)) = false by simp), out (v1, v2) _ rfl]
    intro _ _; kernel_rfl
theorem best_some {self : Nat} {l : List Rp} : ∀ {k : Nat} {y : Nat × Rp}, bestU self l k = some y → y.1 < k ∧ l[y.1]? = some y.2 ∧ wayB self y.2 = true
  | 0, y, h => by cases h
  | k + 1, y, h => by
    cases hx : l[k]? with
    | none =>
      have e : bestU self l (k + 1) = bestU self l k := by
        show (match l[k]? with | none => bestU self l k | some x => if wayB self x && (match bestU self l k with | none => true | some y => aheadB x y.2) then some (k, x) else bestU self l k) = _
        rw [hx]
      rw [e] at h
      obtain ⟨h1, h2⟩ := best_some h
      exact ⟨by omega, h2⟩
    | some x =>
      cases c : (wayB self x && (match bestU self l k with | none => true | some y => aheadB x y.2)) with
      | false =>
        rw [best_step hx c] at h
        obtain ⟨h1, h2⟩ := best_some h
        exact ⟨by omega, h2⟩
      | true =>
        rw [best_step hx c] at h
        injection h with h
        subst h
        rw [Bool.and_eq_true] at c
        exact ⟨by simp, hx, c.1⟩
/-- What is chosen, of what the best way is. -/
def chV (Ro C : Nat) (P : Int) (y : Hd × Hd) : Value := .agg (chA Ro C P (.slice y.1.1 n y.1.2) (.slice y.2.1 n y.2.2))
def chO (Ro C : Nat) (P : List Int) (y : Hd × Hd) : Bds := [bdO 76 8 rpC (.slice a n m) l, bdO 3 1 inC (.slice y.1.1 n y.1.2) P, bdO 71 4 vcC (.slice y.2.1 n y.2.2) (tellsK self Ro C l n)]
theorem choose_fun (hl : l.length = n) (hn : n ≤ 1000) (hok : ∀ x ∈ l, x.ok) {F : Option (Nat × Rp)} (hF : bestU self l n = F) : Fun Tryd.prog 22 [.int .u64 (self : Nat), .slice a n m] [bdO 76 8 rpC (.slice a n m) l] (Hd × Hd) (chV n (rootN self F) (costN self F) (portN self F)) (chO self l a n m (rootN self F) (costN self F) (rolesE self (rootN self F) (costN self F) (portN self F) l n)) := by
  have hb := best_fun self l a n m hl (by omega) hok
  rw [hF] at hb
  have l1 : ∀ Ro C, (rolesK self Ro C l n).length = n := fun Ro C => tk_len _ (by omega)
  cases F with
  | none =>
    exact ev_fun (fun R fin => [oF hb () 0 fun _ => [.q _ _ _ _ _ (q_neq way_zero), No, No, .a 1 _ _ (nil_own 3 1 inC []), .a 2 _ _ (nil_own 71 4 vcC []),
      .l _ _ _ _ _ _ (choose_loop self l a n m R self 0 0 hl hn) fun y => [No, fin y]]]) (fun R β w => by kernel_rfl)
  | some y =>
    obtain ⟨b1, b2, b3⟩ := best_some hF
    have k1 : ((y.1 : Int) + 1) ≠ 0 := by omega
    by_cases hr : y.2.v.r < self
    · have d0 : decide ((0 : Int) < (y.1 : Int) + 1) = true := by simp
      have e0 : rootN self (some y) = y.2.v.r := if_pos hr
      have e1 : costN self (some y) = (plusV y.2.v y.2.c).c := if_pos hr
      have e2 : portN self (some y) = (y.1 : Int) + 1 := if_pos hr
      have e3 : ∀ Ro C, rolesE self Ro C ((y.1 : Int) + 1) l n = (rolesK self Ro C l n).set y.1 3 := fun Ro C => by
        unfold rolesE
        rw [if_pos (by omega)]
        congr 1
        omega
      have e4 : iv (IntKind.i64.wrap (((y.1 : Int) + 1) - 1)) = iv (y.1 : Nat) := by rw [show ((y.1 : Int) + 1) - 1 = (y.1 : Int) by omega, wrap_nat (by omega)]
      rw [e0, e1, e2, e3]
      exact ev_fun (fun R fin => [oF hb () 0 fun _ => [.q _ _ _ _ _ (q_neq (way_some (plusV y.2.v y.2.c) y.2.i _ k1)), Yes, .b _ _ ((cast_lt _ _).trans (decide_eq_true hr)), .a 1 _ _ (nil_own 3 1 inC []), .a 2 _ _ (nil_own 71 4 vcC []),
        .l _ _ _ _ _ _ (choose_loop self l a n m R y.2.v.r (plusV y.2.v y.2.c).c ((y.1 : Int) + 1) hl hn) fun z => [.b _ _ d0, .r _ _ e4, oJx inE 1 z.1.1 n z.1.2 b1 (l1 y.2.v.r (plusV y.2.v y.2.c).c), oJt inE 1 z.1.1 n z.1.2 3 b1 (l1 y.2.v.r (plusV y.2.v y.2.c).c) rfl, fin z]]]) (fun R β w => by kernel_rfl)
    · have e0 : rootN self (some y) = self := if_neg hr
      have e1 : costN self (some y) = 0 := if_neg hr
      have e2 : portN self (some y) = 0 := if_neg hr
      rw [e0, e1, e2]
      exact ev_fun (fun R fin => [oF hb () 0 fun _ => [.q _ _ _ _ _ (q_neq (way_some (plusV y.2.v y.2.c) y.2.i _ k1)), Yes, .b _ _ ((cast_lt _ _).trans (decide_eq_false hr)), .a 1 _ _ (nil_own 3 1 inC []), .a 2 _ _ (nil_own 71 4 vcC []),
        .l _ _ _ _ _ _ (choose_loop self l a n m R self 0 0 hl hn) fun z => [No, fin z]]]) (fun R β w => by kernel_rfl)
end
end
end Go.Proofs.YtebnpblincgjlaaDoor
section
/- Fields of elements; methods whose lists have a header that is told. -/
namespace Go.Proofs.YtebnpblincgjlaaDoor.Ev
open Go.RowKit
theorem cells_put {α : Type} {enc : α → List Value} {size : Nat} (henc : ∀ x, (enc x).length = size) (j : Nat) (hj : j < size) (u : Value) (x' : α) : ∀ (l : List α) (k : Nat) (x : α), l[k]? = some x → enc x' = (enc x).set j u → (cellsL enc l).set (k * size + j) u = cellsL enc (l.set k x')
  | [], _, _, h, _ => by cases h
  | y :: l, 0, x, h, he => by
    have : y = x := by simpa using h
    subst this
    rw [cellsL_cons, Nat.zero_mul, Nat.zero_add, List.set_append_left _ _ (by rw [henc]; exact hj), ← he]
    rfl
  | y :: l, k + 1, x, h, he => by
    have e : (k + 1) * size + j = size + (k * size + j) := by rw [Nat.succ_mul]; omega
    rw [cellsL_cons, e, List.set_append_right _ _ (by rw [henc]; omega), henc, Nat.add_sub_cancel_left, cells_put henc j hj u x' l k x (by simpa using h) he]
    rfl
section
variable {α : Type} {P : Program} {t e : TypeId} {size : Nat} {enc : α → List Value} {val : α → Value}
/-- One cell of an element is set. -/
def oSf (E : ElV P t e size enc val) (p : Nat) (g n m : Nat) {l l2 : List α} {k : Nat} (ty : TypeId) (j : Nat) (u : Value) {x : α} (x' : α) (hx : l[k]? = some x) (hn : l.length = n) (hj : j < size) (he : enc x' = (enc x).set j u) (hi : (P.info? ty).map (·.size) = some 1) (hc : u.cells = #[u]) (h1 : u.oneCell' = true) (h2 : l.set k x' = l2) : Ora P :=
  .x false (.s fun _ => do (Instr.storeAt ty (.pointer (some ⟨g, k * size + j, none⟩)) u); pure .skip) p [bdO e size enc (.slice (some ⟨g, 0, none⟩) n m) l] [bdO e size enc (.slice (some ⟨g, 0, none⟩) n m) l2] undef
    (fun w0 F R β w K => by
      subst hn
      subst h2
      have hk := (List.getElem?_eq_some_iff.1 hx).1
      show stepS P _ _ w
      unfold stepS
      have h : Own w 0 e size enc (.slice (some ⟨g, 0, none⟩) l.length m) l := K.one
      have ht : w.there g (k * size + j) u.cells.size := by
        rw [hc]
        have q := h.there E.len k hk
        intro i hi
        have hi : i < 1 := hi
        obtain rfl : i = 0 := by omega
        exact q j hj
      have e2 := run_storeVar_any (P := P) w g (k * size + j) ty u ht (by rw [hc]; exact hi) (by rw [hc]; simp [h1])
      simp only [Sem.run_bind, Sem.run_pure, Result.andThen_ok, Instr.storeAt, Instr.sureAddr, e2, hc]
      refine ⟨trivial, ?_⟩
      obtain ⟨s1, s2⟩ := World.ownsRow.stored h (k * size + j) u
      rw [cells_put E.len j hj u x' l k x hx he] at s1
      refine Kf.chg (A' := sepL [bdO e size enc (.slice (some ⟨g, 0, none⟩) l.length m) (l.set k x')]) K (mv_grown s2) (fun j hj => .inl (.inl hj)) ⟨?_, trivial, fun _ _ h => h⟩ (fun j hj => .inl hj) (Nat.le_refl _)
      show Own _ 0 e size enc (.slice (some ⟨g, 0, none⟩) l.length m) (l.set k x')
      unfold Own
      rw [List.length_set]
      exact s1)
/-- One cell of an element is read. -/
def oLf (E : ElV P t e size enc val) (p : Nat) (g n m : Nat) {l : List α} {k : Nat} (ty : TypeId) (j : Nat) (u : Value) {x : α} (hx : l[k]? = some x) (hn : l.length = n) (hj : j < size) (he : (enc x)[j]? = some u) (hu : plainT (P.underlying ty) = true) : Ora P :=
  .x true (.s fun _ => do pure (.value (← Instr.loadAt ty (.pointer (some ⟨g, k * size + j, none⟩))))) p [bdO e size enc (.slice (some ⟨g, 0, none⟩) n m) l] [bdO e size enc (.slice (some ⟨g, 0, none⟩) n m) l] u
    (fun w0 F R β w K => by
      subst hn
      show stepS P _ _ w
      unfold stepS
      have h : Own w 0 e size enc (.slice (some ⟨g, 0, none⟩) l.length m) l := K.one
      have hc := h.at E.len k j x hx hj
      rw [he] at hc
      simp only [Sem.run_bind, Sem.run_pure, Result.andThen_ok, run_loadAt_cell hu hc]
      exact ⟨trivial, K⟩)
end
section
variable {P : Program} {f : FuncId} {args : List Value} {cs : Array Value} {ty : TypeId} {A : Bds} {Y : Type} {v : Y → Value} {cs' : Y → Array Value} {A' : Y → Bds}
/-- A list that is owned and isn't empty tells where it lies. -/
theorem Meth_own {α : Type} {e : TypeId} {size : Nat} {enc : α → List Value} {a : Option Addr} {n m k : Nat} {l : List α} (p : Nat) (hp : A[p]? = some (bdO e size enc (.slice a n m) l)) (hk : k < l.length)
    (h2 : (∃ g, a = some ⟨g, 0, none⟩) → Meth P f args cs ty A Y v cs' A') : Meth P f args cs ty A Y v cs' A' :=
  fun w0 F R k b w hF K => h2 (own_ptr (w := w) (e := e) (size := size) (enc := enc) (n := n) (m := m) ((sepL_p.1 K.a.1).1 _ (List.mem_of_getElem? hp)) hk) w0 F R k b w hF K
end
end Go.Proofs.YtebnpblincgjlaaDoor.Ev
end
namespace Go.Proofs.YtebnpblincgjlaaDoor
section
/- Layer 18, by the evaluator: an act's own block, and what it owns. -/
open Go.RowKit
open Ev
set_option maxRecDepth 100000
theorem poE : ElV Tryd.prog 32 73 21 poC poV := ⟨poT, by kernel_rfl, fun x => by simp [Value.cells, poC], .inl ⟨by kernel_rfl, fun x => by simp [poC]⟩⟩
theorem tdE : ElV Tryd.prog 44 89 17 tdC tdV := ⟨tdT, by kernel_rfl, fun x => by simp [Value.cells, tdC], .inl ⟨by kernel_rfl, fun x => by simp [tdC]⟩⟩
theorem RolesAt.mv {G : Nat → Prop} {w w' : World} (h : RolesAt w) (hm : Mv G w w') (hn : ∀ k, G k → 1 ≤ k) : RolesAt w' := by
  have hl := h.lt
  unfold RolesAt World.var? at h ⊢
  rw [rolesNo] at h ⊢
  simp only [Option.bind_some] at h ⊢
  rw [hm.block 0 hl fun g => by have := hn 0 g; omega]
  exact h
def bdR : Bd := ⟨RolesAt, fun _ => False, 1, fun _ h => h.elim, fun h m _ g => h.mv m g⟩
structure TS where
  s : Go.Proofs.YtebnpblincgjlaaDoor.St
  told : List Td
  fl : List Int
def TS.setPo (t : TS) (l : List Po) : TS := ⟨⟨t.s.cf, l, t.s.vl, t.s.st, t.s.fd, t.s.c, t.s.beat⟩, t.told, t.fl⟩
def TS.setBeat (t : TS) (k : Int) : TS := ⟨⟨t.s.cf, t.s.po, t.s.vl, t.s.st, t.s.fd, t.s.c, k⟩, t.told, t.fl⟩
def TS.tell (t : TS) (x : Td) : TS := ⟨t.s, t.told ++ [x], t.fl⟩
def TS.flush (t : TS) (x : Int) : TS := ⟨t.s, t.told, t.fl ++ [x]⟩
/-- The slices of an act that stay: of its ports, and of what it has beside. -/
structure Hp where
  a : Option Addr
  n : Nat
  m : Nat
  v2 : Value
  v3 : Value
  v4 : Value
abbrev H2 := Hd × Hd
def acA (t : TS) (c : Hp) (y : H2) : Array Value := (stL t.s (.slice c.a c.n c.m) c.v2 c.v3 c.v4 ++ [Value.slice y.1.1 t.told.length y.1.2, Value.slice y.2.1 t.fl.length y.2.2]).toArray
def acO (t : TS) (c : Hp) (y : H2) : Bds := [bdO 73 21 poC (.slice c.a c.n c.m) t.s.po, bdO 89 17 tdC (.slice y.1.1 t.told.length y.1.2) t.told, bdO 3 1 inC (.slice y.2.1 t.fl.length y.2.2) t.fl, bdR]
/-- A method of an act: what it makes of its state. -/
def Acts (T : TypeId) (f : FuncId) (args : List Value) (t t' : TS) : Prop := ∀ (c : Hp) (y : H2), t.s.po.length = c.n → Meth Tryd.prog f args (acA t c y) T (acO t c y) H2 (fun _ => .tuple #[]) (acA t' c) (acO t' c)
/-- So, where it answers, and all stays. -/
def Asks (T : TypeId) (f : FuncId) (args : List Value) (t : TS) (v : Value) : Prop := ∀ (c : Hp) (y : H2), t.s.po.length = c.n → Meth Tryd.prog f args (acA t c y) T (acO t c y) Unit (fun _ => v) (fun _ => acA t c y) (fun _ => acO t c y)
def innerB (x : Po) : Bool := onP x && !edgeB x
def linkB (x : Po) : Bool := decide (x.p10 = 3) || decide (x.p10 = 4)
def chP (x : Po) (h : Int) : Po := { x with p20 := h }
def twoH (t : TS) : Int := IntKind.i64.wrap (2 * t.s.cf.p2)
theorem inner_any (x : Po) (w : World) : Calls Tryd.prog 75 #[poV x] w fun e w' => e = .returned (.bool (innerB x)) ∧ Below w.heap.size w w' := by
  unfold innerB
  cases h : onP x
  · exact ev_call [.c _ _ _ (on_any x), .b _ _ h] (fun _ _ => by kernel_rfl) w
  · exact ev_call [.c _ _ _ (on_any x), .b _ _ h, .c _ _ _ (edge_any x)] (fun _ _ => by kernel_rfl) w
theorem linked_any (x : Po) (w : World) : Calls Tryd.prog 76 #[poV x] w fun e w' => e = .returned (.bool (linkB x)) ∧ Below w.heap.size w w' := by
  unfold linkB
  by_cases h : x.p10 = 3
  · rw [decide_eq_true h]
    exact ev_call [.b _ _ (decide_eq_true h)] (fun _ _ => by kernel_rfl) w
  · rw [decide_eq_false h]
    exact ev_call [.b _ _ (decide_eq_false h)] (fun _ _ => by kernel_rfl) w
theorem alert_acts {t : TS} {i : Nat} {x : Po} (hx : t.s.po[i]? = some x) : Acts 112 74 [iv (i : Nat)] t (t.setPo (t.s.po.set i (chP x (twoH t)))) := by
  intro c y hl
  obtain ⟨a, n, m, v2, v3, v4⟩ := c
  have hl : t.s.po.length = n := hl
  have hk := (List.getElem?_eq_some_iff.1 hx).1
  refine Meth_own (k := i) 0 rfl hk fun ⟨g, hg⟩ => ?_
  subst hg
  exact ev_meth (fun R fin => [.k, oIx poE g n m (hl ▸ hk), oSf poE 0 g n m 3 20 (iv (twoH t)) (chP x (twoH t)) hx hl (by decide) rfl (by kernel_rfl) rfl rfl rfl, fin y]) (fun R β w => by kernel_rfl)
end
section
/- Layer 18, by the evaluator: age, send. -/
open Go.RowKit
open Ev
set_option maxRecDepth 100000
def ageL (l : List Po) : Int := match l.find? (fun x => decide (x.p10 = 3)) with | some x => IntKind.i64.wrap (x.p17 + 1) | none => 0
section
variable (t : TS) (g n m : Nat) (v2 v3 v4 : Value) (a : Option Addr) (y : H2) (R : Bd)
def agS (k : Nat) : Ev.St := ⟨sp 22 [(0, .p 0 0), (2, .v (iv 0)), (9, .v (.slice a n m)), (10, .v (iv (n : Nat))), (11, .v (iv (k : Nat)))], [(acA t ⟨a, n, m, v2, v3, v4⟩ y, 112)], acO t ⟨a, n, m, v2, v3, v4⟩ y ++ [R]⟩
def agE (v : Int) : Ev.St := ⟨sp 22 [(0, .p 0 0), (2, .v (iv v))], [(acA t ⟨a, n, m, v2, v3, v4⟩ y, 112)], acO t ⟨a, n, m, v2, v3, v4⟩ y ++ [R]⟩
theorem age_none (hl : t.s.po.length = n) (hn : n ≤ 100000) (h0 : ∀ x ∈ t.s.po, decide (x.p10 = 3) = false) : TY Tryd.prog 1 (.loop (loopN Tryd.prog 77 0)) (agS t n m v2 v3 v4 a y R 0) Unit (.exit 0) (fun _ => agE t n m v2 v3 v4 a y R 0) := by
  refine T_loop (I := {k : Nat // k ≤ n}) (fun k => agS t n m v2 v3 v4 a y R k.1) (fun k => n - k.1) (by simp) _ (fun ⟨k, hk⟩ => ?_) ⟨0, Nat.zero_le _⟩
  by_cases h : k < n
  · obtain ⟨x, hx⟩ : ∃ x, t.s.po[k]? = some x := ⟨_, List.getElem?_eq_getElem (by omega)⟩
    have d : decide ((k : Int) < (n : Int)) = true := by simp; omega
    refine step_at _ rfl ?_ ?_ (Nat.le_refl 1)
    exact fun go out => [.b _ _ d, oJx poE 0 a n m h hl, oJd poE 0 a n m hx hl, .b _ _ (h0 x (List.mem_of_getElem? hx)), .r _ _ (wrap_next h hn), go ⟨k + 1, h⟩ (by show n - (k + 1) < n - k; omega) _ rfl]
    intro _ _; kernel_rfl
  · obtain rfl : k = n := by omega
    refine step_at _ rfl ?_ ?_ (Nat.le_refl 1)
    exact fun go out => [.b _ _ (show decide ((k : Int) < (k : Int)) = false by simp), out () _ rfl]
    intro _ _; kernel_rfl
theorem age_some {j : Nat} {z : Po} (hl : t.s.po.length = n) (hn : n ≤ 100000) (hj : t.s.po[j]? = some z) (hz : decide (z.p10 = 3) = true) (h0 : ∀ k x, k < j → t.s.po[k]? = some x → decide (x.p10 = 3) = false) : TY Tryd.prog 1 (.loop (loopN Tryd.prog 77 0)) (agS t n m v2 v3 v4 a y R 0) Unit .ret (fun _ => agE t n m v2 v3 v4 a y R (IntKind.i64.wrap (z.p17 + 1))) := by
  have hjn := (List.getElem?_eq_some_iff.1 hj).1
  refine T_loop (I := {k : Nat // k ≤ j}) (fun k => agS t n m v2 v3 v4 a y R k.1) (fun k => j - k.1) (by simp) _ (fun ⟨k, hk⟩ => ?_) ⟨0, Nat.zero_le _⟩
  have d : decide ((k : Int) < (n : Int)) = true := by simp; omega
  by_cases h : k < j
  · obtain ⟨x, hx⟩ : ∃ x, t.s.po[k]? = some x := ⟨_, List.getElem?_eq_getElem (by omega)⟩
    have hkn : k < n := by omega
    refine step_at _ rfl ?_ ?_ (Nat.le_refl 1)
    exact fun go out => [.b _ _ d, oJx poE 0 a n m hkn hl, oJd poE 0 a n m hx hl, .b _ _ (h0 k x h hx), .r _ _ (wrap_next hkn hn), go ⟨k + 1, h⟩ (by show j - (k + 1) < j - k; omega) _ rfl]
    intro _ _; kernel_rfl
  · obtain rfl : k = j := by omega
    refine step_at _ rfl ?_ ?_ (Nat.le_refl 1)
    exact fun go out => [.b _ _ d, oJx poE 0 a n m (hl ▸ hjn) hl, oJd poE 0 a n m hj hl, .b _ _ hz, .k, out () _ rfl]
    intro _ _; kernel_rfl
end
theorem age_asks {t : TS} (hn : t.s.po.length ≤ 100000) : Asks 112 77 [] t (iv (ageL t.s.po)) := by
  intro c y hl
  obtain ⟨a, n, m, v2, v3, v4⟩ := c
  have hl : t.s.po.length = n := hl
  cases hf : t.s.po.find? (fun x => decide (x.p10 = 3)) with
  | none =>
    rw [show ageL t.s.po = 0 by unfold ageL; rw [hf]]
    have h0 : ∀ x ∈ t.s.po, decide (x.p10 = 3) = false := by simpa using hf
    exact ev_meth (fun R fin => [.l _ _ _ _ _ _ (age_none t n m v2 v3 v4 a y R hl (by omega) h0) fun _ => [fin ()]]) (fun R β w => by kernel_rfl)
  | some z =>
    rw [show ageL t.s.po = IntKind.i64.wrap (z.p17 + 1) by unfold ageL; rw [hf]]
    obtain ⟨hz, j, hj, e, h0⟩ := List.find?_eq_some_iff_getElem.1 hf
    have hj2 : t.s.po[j]? = some z := by rw [List.getElem?_eq_getElem hj, e]
    exact ev_meth (fun R fin => [.l _ _ _ _ _ _ (age_some t n m v2 v3 v4 a y R hl (by omega) hj2 hz fun k x hk hx => by
      have := h0 k hk
      obtain ⟨q1, q2⟩ := List.getElem?_eq_some_iff.1 hx
      rw [q2] at this
      simpa using this) fun _ => [fin ()]]) (fun R β w => by kernel_rfl)
end
end Go.Proofs.YtebnpblincgjlaaDoor
section
/- One's own block as an owned thing, and back. -/
namespace Go.Proofs.YtebnpblincgjlaaDoor.Ev
open Go.RowKit
/-- A block that is owned. -/
def bdB (b : Nat) (cs : Array Value) (ty : TypeId) : Bd :=
  ⟨fun W => Blk W b cs ty, fun k => k = b, 0, fun h e => e ▸ h.lt, fun h m n _ => blk_fr h m (n b rfl)⟩
section
variable {w0 w : World} {F : Fm} {A : Bd} {b l : Nat} {cs : Array Value} {ty : TypeId}
theorem Kf.own (K : Kf w0 F A w) (e : F l = some (b, cs, ty)) : Kf w0 (fun j => if j = l then Option.none else F j) ((bdB b cs ty).sep A) w := by
  have key : ∀ {j x}, (if j = l then Option.none else F j) = some x → j ≠ l ∧ F j = some x := fun {j x} h => by
    split at h
    · cases h
    · exact ⟨by assumption, h⟩
  refine ⟨fun j x h => K.all j x (key h).2, K.below, fun j x h => K.new j x (key h).2, fun j j' x x' h h' q => K.inj j j' x x' (key h).2 (key h').2 q, ⟨K.all l _ e, K.a, fun k hk ha => ?_⟩, fun j x h hf => ?_, fun k hk => ?_, ?_⟩
  · have hk : k = b := hk
    subst hk
    exact K.ap l _ e ha
  · rcases hf with hf | hf
    · exact (key h).1 (K.inj j l x _ (key h).2 e hf)
    · exact K.ap j x (key h).2 hf
  · rcases hk with hk | hk
    · have hk : k = b := hk
      subst hk
      exact K.new l _ e
    · exact K.nw k hk
  · have := K.lo
    show max 0 A.lo ≤ _
    omega
theorem Kf.free (K : Kf w0 F ((bdB b cs ty).sep A) w) : Kf w0 (fun j => if j = 0 then some (b, cs, ty) else F (j - 1)) A w := by
  have key : ∀ {j x}, (if j = 0 then some (b, cs, ty) else F (j - 1)) = some x → (j = 0 ∧ x = (b, cs, ty)) ∨ (j ≠ 0 ∧ F (j - 1) = some x) := fun {j x} h => by
    split at h
    · injection h with h
      exact .inl ⟨by assumption, h.symm⟩
    · exact .inr ⟨by assumption, h⟩
  refine ⟨fun j x h => ?_, K.below, fun j x h => ?_, fun j j' x x' h h' q => ?_, K.a.2.1, fun j x h hf => ?_, fun k hk => K.nw k (.inr hk), ?_⟩
  · rcases key h with ⟨h1, rfl⟩ | ⟨h1, h2⟩
    · exact K.a.1
    · exact K.all _ _ h2
  · rcases key h with ⟨h1, rfl⟩ | ⟨h1, h2⟩
    · exact K.nw b (.inl rfl)
    · exact K.new _ _ h2
  · rcases key h with ⟨h1, rfl⟩ | ⟨h1, h2⟩ <;> rcases key h' with ⟨j1, rfl⟩ | ⟨j1, j2⟩
    · omega
    · exact absurd (.inl q.symm) (K.ap _ _ j2)
    · exact absurd (.inl q) (K.ap _ _ h2)
    · have := K.inj _ _ _ _ h2 j2 q
      omega
  · rcases key h with ⟨h1, rfl⟩ | ⟨h1, h2⟩
    · exact K.a.2.2 b rfl hf
    · exact K.ap _ _ h2 (.inr hf)
  · have : max 0 A.lo ≤ w0.heap.size := K.lo
    omega
theorem sep_in {S R : Bd} (K : Kf w0 F ((A.sep S).sep R) w) : Kf w0 F (A.sep (S.sep R)) w :=
  Kf.iff K (fun h => ⟨h.1.1, ⟨h.1.2.1, h.2.1, fun k q => h.2.2 k (.inr q)⟩, fun k q hk => hk.elim (h.1.2.2 k q) (h.2.2 k (.inl q))⟩) (fun k hk => hk.elim (fun q => .inl (.inl q)) (fun q => q.elim (fun q => .inl (.inr q)) .inr)) (by
    show max A.lo (max S.lo R.lo) ≤ max (max A.lo S.lo) R.lo
    omega)
theorem sep_out {S R : Bd} (K : Kf w0 F (A.sep (S.sep R)) w) : Kf w0 F ((A.sep S).sep R) w :=
  Kf.iff K (fun h => ⟨⟨h.1, h.2.1.1, fun k q hk => h.2.2 k q (.inl hk)⟩, h.2.1.2.1, fun k q hk => q.elim (fun q => h.2.2 k q (.inr hk)) (fun q => h.2.1.2.2 k q hk)⟩) (fun k hk => hk.elim (fun q => q.elim .inl fun q => .inr (.inl q)) (fun q => .inr (.inr q))) (by
    show max (max A.lo S.lo) R.lo ≤ max A.lo (max S.lo R.lo)
    omega)
end
section
variable {P : Program} {f : FuncId} {args : List Value} {cs : Array Value} {ty : TypeId} {A : Bds} {Y : Type} {v : Y → Value} {cs' : Y → Array Value} {A' : Y → Bds}
abbrev pB (b : Nat) (o : Nat := 0) : Value := .pointer (some ⟨b, o, none⟩)
theorem Meth_in (h : Meth P f args cs ty A Y v cs' A') (b : Nat) : Fun P f (pB b :: args) (bdB b cs ty :: A) Y v (fun y => bdB b (cs' y) ty :: A' y) := by
  intro w0 F R w K
  refine (h w0 _ R 0 b w rfl (Kf.free (sep_in K))).mono fun e w' ⟨y, e1, e2⟩ => ⟨y, e1, ?_⟩
  have up : ∀ {l x}, F l = some x → upF (fun j => if j = 0 then some (b, cs, ty) else F (j - 1)) 0 (b, cs' y, ty) (l + 1) = some x := fun {l x} hx => by
    unfold upF
    rw [if_neg (by omega)]
    show (if l + 1 = 0 then _ else F (l + 1 - 1)) = _
    rw [if_neg (by omega)]
    exact hx
  refine sep_out (Kf.re (Kf.own (l := 0) e2 rfl) (fun l x hx => ⟨l + 1, ?_⟩) (fun l l' x x' hx hx' q => ?_))
  · show (if l + 1 = 0 then _ else _) = _
    rw [if_neg (by omega)]
    exact up hx
  · have e3 := e2.inj (l + 1) (l' + 1) x x' (up hx) (up hx') q
    omega
theorem Meth_out (h : ∀ b, Fun P f (pB b :: args) (bdB b cs ty :: A) Y v (fun y => bdB b (cs' y) ty :: A' y)) : Meth P f args cs ty A Y v cs' A' := by
  intro w0 F R k b w hF K
  refine (h b w0 _ R w (sep_out (Kf.own K hF))).mono fun e w' ⟨y, e1, e2⟩ => ⟨y, e1, ?_⟩
  have e3 := Kf.free (sep_in e2)
  have key : ∀ {l x}, upF F k (b, cs' y, ty) l = some x → ∃ l', (if l' = 0 then some (b, cs' y, ty) else (fun j => if j = k then Option.none else F j) (l' - 1)) = some x ∧ ((l = k ∧ l' = 0) ∨ (l ≠ k ∧ l' = l + 1)) := fun {l x} hx => by
    unfold upF at hx
    split at hx
    · injection hx with hx
      exact ⟨0, by rw [if_pos rfl, hx], .inl ⟨by assumption, rfl⟩⟩
    · next c => exact ⟨l + 1, by rw [if_neg (by omega)]; show (if l = k then Option.none else F l) = _; rw [if_neg c]; exact hx, .inr ⟨c, rfl⟩⟩
  refine Kf.re e3 (fun l x hx => (key hx).elim fun l' q => ⟨l', q.1⟩) fun l l' x x' hx hx' q => ?_
  obtain ⟨j, h1, h2⟩ := key hx
  obtain ⟨j', h1', h2'⟩ := key hx'
  have := e3.inj _ _ _ _ h1 h1' q
  omega
/-- A cell of a block that is owned. -/
def oBl {b : Nat} (p : Nat) (t2 : TypeId) (j : Nat) (u : Value) (hc : cs[j]? = some u) (hu : plainT (P.underlying t2) = true) : Ora P :=
  .x true (.s fun _ => do pure (.value (← Instr.loadAt t2 (.pointer (some ⟨b, j, none⟩))))) p [bdB b cs ty] [bdB b cs ty] u
    (fun w0 F R β w K => by
      show stepS P _ _ w
      unfold stepS
      have h : Blk w b cs ty := K.one
      have hc2 : w.cell? ⟨b, j, none⟩ = some u := by
        have := h.cell j
        rw [this, hc]
      simp only [Sem.run_bind, Sem.run_pure, Result.andThen_ok, run_loadAt_cell hu hc2]
      exact ⟨trivial, K⟩)
/-- A function whose answer is known. -/
def oU {v : Value} {A' : Bds} (rd : Bool) (h : Fun P f args A Unit (fun _ => v) (fun _ => A')) (p : Nat) : Ora P :=
  .x rd (.c f (args.map .v)) p A A' v (fun w0 F R β w K => by
    have ea : ((args.map SV.v).map (SV.den β)).toArray = args.toArray := by
      rw [List.map_map]
      have : (SV.den β) ∘ SV.v = id := by funext x; rfl
      rw [this, List.map_id]
    show Calls P f _ w _
    rw [ea]
    exact (h w0 F R w K).mono fun e w' ⟨y, e1, e2⟩ => ⟨v, e1, rfl, e2⟩)
end
end Go.Proofs.YtebnpblincgjlaaDoor.Ev
end
namespace Go.Proofs.YtebnpblincgjlaaDoor
section
/- Layer 18, by the evaluator: send. -/
open Go.RowKit
open Ev
set_option maxRecDepth 100000
def roleT (r : Int) : Int := if r = 1 ∨ r = 2 then 1 else if r = 3 then 2 else if r = 4 then 3 else 0
def sentQ (x : Po) (q : Pd) : Pd := { q with p0 := 2, p7 := (roleT x.p10), p8 := x.p13, p9 := x.p14, p10 := x.p15, p11 := x.p16 }
def told1 (k : Int) (q : Pd) : Td := ⟨k, q.p0, q.p1, q.p2, q.p3, q.p4, q.p5, q.p6, q.p7, q.p8, q.p9, q.p10, q.p11, q.p12, q.p13, q.p14, q.p15⟩
def sendM (t : TS) (i : Nat) (q : Pd) : TS := match t.s.po[i]? with
  | some x => t.tell (told1 ((i : Int) + 1) (sentQ x q))
  | none => t
theorem role_tab {r : Int} (h : 0 ≤ r ∧ r ≤ 4) : 0 ≤ r ∧ r < 5 ∧ rolesA[r.toNat]? = some (.int .u8 (roleT r)) := by
  refine ⟨h.1, by omega, ?_⟩
  have : r = 0 ∨ r = 1 ∨ r = 2 ∨ r = 3 ∨ r = 4 := by omega
  rcases this with rfl | rfl | rfl | rfl | rfl <;> rfl
def oRi {r : Int} (h : 0 ≤ r ∧ r < 5) : Ora Tryd.prog :=
  .x true (.s fun _ => do pure (.value (← Instr.indexAt 153 (.pointer (some ⟨0, 0, none⟩)) (.int .i64 r)))) 0 [] [] (.pointer (some ⟨0, r.toNat, none⟩))
    (fun w0 F R β w K => by
      show stepS _ _ _ w
      unfold stepS
      have e : Tryd.prog.underlying 153 = some (.array (Tryd.prog.arrayLen 153) (Tryd.prog.elem 153)) := by kernel_rfl
      have e5 : Tryd.prog.arrayLen 153 = 5 := by kernel_rfl
      have ee : Tryd.prog.elem 153 = 5 := by kernel_rfl
      have es : (sizeOf 5).run Tryd.prog w = .ok 1 w := by kernel_rfl
      simp only [Sem.run_bind, Sem.run_pure, Result.andThen_ok, run_indexAt_array w 153 _ _ _ e, e5, ee]
      rw [if_pos (by omega)]
      simp only [es, Result.andThen_ok]
      refine ⟨?_, K⟩
      simp [Addr.add]
      omega)
def oRl {r : Int} (p : Nat) (h : rolesA[r.toNat]? = some (.int .u8 (roleT r))) : Ora Tryd.prog :=
  .x true (.s fun _ => do pure (.value (← Instr.loadAt 5 (.pointer (some ⟨0, r.toNat, none⟩))))) p [bdR] [bdR] (.int .u8 (roleT r))
    (fun w0 F R β w K => by
      show stepS _ _ _ w
      unfold stepS
      have hr : RolesAt w := K.one
      have hc := hr.cell r.toNat
      rw [h] at hc
      simp only [Sem.run_bind, Sem.run_pure, Result.andThen_ok, run_loadAt_cell (show plainT (Tryd.prog.underlying 5) = true by kernel_rfl) hc]
      exact ⟨trivial, K⟩)
theorem wrap_i {i n : Nat} (h : i < n) (hn : n ≤ 100000) : iv (IntKind.i64.wrap ((i : Int) + 1)) = iv ((i : Int) + 1) := wrap_one h hn
theorem send_acts {t : TS} {i : Nat} {x : Po} (q : Pd) (hx : t.s.po[i]? = some x) (hr : 0 ≤ x.p10 ∧ x.p10 ≤ 4) (hn : t.s.po.length ≤ 1000) (ht : t.told.length ≤ 1900) : Acts 112 61 [iv (i : Nat), pdV q] t (sendM t i q) := by
  intro c y hl
  obtain ⟨a, n, m, v2, v3, v4⟩ := c
  have hl : t.s.po.length = n := hl
  have hk := (List.getElem?_eq_some_iff.1 hx).1
  rw [show sendM t i q = t.tell (told1 ((i : Int) + 1) (sentQ x q)) by unfold sendM; rw [hx]]
  obtain ⟨r1, r2, r3⟩ := role_tab hr
  exact ev_meth (fun R fin => [oJx poE 0 a n m (hl ▸ hk) hl, oJd poE 0 a n m hx hl, oRi ⟨r1, r2⟩, oRl 3 r3, .r _ _ (wrap_i hk (by omega)),
    oAp tdE 44 1 3 #[false, false] (.slice y.1.1 t.told.length y.1.2) t.told [told1 ((i : Int) + 1) (sentQ x q)] (t.tell (told1 ((i : Int) + 1) (sentQ x q))).told.length (by show _ = (t.told ++ [_]).length; simp) (by show (t.told ++ [_]).length ≤ _; simp; omega) fun y1 => [fin (y1, y.2)]]) (fun R β w => by kernel_rfl)
end
section
/- Layer 18, by the evaluator: tell. -/
open Go.RowKit
open Ev
set_option maxRecDepth 100000
def tellQ (t : TS) (x : Po) : Pd := ⟨0, (decide (0 < x.p20)), (!decide (x.p11 = 2)), (decide (x.p11 = 1) || decide (x.p11 = 2)), (decide (x.p11 = 2)), false, false, 0, 0, 0, 0, 0, (IntKind.u16.wrap (ageL t.s.po)), (IntKind.u16.wrap t.s.cf.p1), (IntKind.u16.wrap t.s.cf.p2), (IntKind.u16.wrap t.s.cf.p3)⟩
def tellM (t : TS) (i : Nat) : TS := match t.s.po[i]? with
  | some x => sendM t i (tellQ t x)
  | none => t
def tellE (t : TS) (x : Po) (p : Bool) : Pd := ⟨0, (decide (0 < x.p20)), (!decide (x.p11 = 2)), (bif p then true else decide (x.p11 = 2)), (decide (x.p11 = 2)), false, false, 0, 0, 0, 0, 0, (IntKind.u16.wrap (ageL t.s.po)), (IntKind.u16.wrap t.s.cf.p1), (IntKind.u16.wrap t.s.cf.p2), (IntKind.u16.wrap t.s.cf.p3)⟩
theorem tell_e {t : TS} {x : Po} {p : Bool} (h : decide (x.p11 = 1) = p) : tellQ t x = tellE t x p := by
  unfold tellQ tellE
  rw [h]
  cases p <;> rfl
theorem plain32 : plainT (Tryd.prog.underlying 32) = true := by kernel_rfl
theorem plain3 : plainT (Tryd.prog.underlying 3) = true := by kernel_rfl
theorem tell_acts {t : TS} {i : Nat} {x : Po} (hx : t.s.po[i]? = some x) (hr : 0 ≤ x.p10 ∧ x.p10 ≤ 4) (hn : t.s.po.length ≤ 1000) (ht : t.told.length ≤ 1900) : Acts 112 60 [iv (i : Nat)] t (tellM t i) := by
  intro c y hl
  have q1 := age_asks (t := t) (by omega) c y hl
  rw [show tellM t i = sendM t i (tellQ t x) by unfold tellM; rw [hx]]
  obtain ⟨a, n, m, v2, v3, v4⟩ := c
  have hl : t.s.po.length = n := hl
  have hk := (List.getElem?_eq_some_iff.1 hx).1
  refine Meth_out fun b => ?_
  have h1 := Meth_in q1 b
  have h3 := fun p => Meth_in (send_acts (tellE t x p) hx hr hn ht ⟨a, n, m, v2, v3, v4⟩ y hl) b
  cases hs : decide (x.p11 = 1)
  · rw [tell_e hs]
    have h2 := h3 false
    exact ev_fun (fun R fin => [oBl (b := b) (cs := acA t ⟨a, n, m, v2, v3, v4⟩ y) (ty := 112) 0 32 6 (.slice a n m) rfl plain32, oJx poE 1 a n m (hl ▸ hk) hl, oJd poE 1 a n m hx hl,
      .b _ _ hs, oU true h1 0, oBl (b := b) (cs := acA t ⟨a, n, m, v2, v3, v4⟩ y) (ty := 112) 0 3 1 (iv t.s.cf.p1) rfl plain3, oBl (b := b) (cs := acA t ⟨a, n, m, v2, v3, v4⟩ y) (ty := 112) 0 3 2 (iv t.s.cf.p2) rfl plain3, oBl (b := b) (cs := acA t ⟨a, n, m, v2, v3, v4⟩ y) (ty := 112) 0 3 3 (iv t.s.cf.p3) rfl plain3, oF h2 y 0 fun y1 => [fin y1]]) (fun R β w => by kernel_rfl)
  · rw [tell_e hs]
    have h2 := h3 true
    exact ev_fun (fun R fin => [oBl (b := b) (cs := acA t ⟨a, n, m, v2, v3, v4⟩ y) (ty := 112) 0 32 6 (.slice a n m) rfl plain32, oJx poE 1 a n m (hl ▸ hk) hl, oJd poE 1 a n m hx hl,
      .b _ _ hs, oU true h1 0, oBl (b := b) (cs := acA t ⟨a, n, m, v2, v3, v4⟩ y) (ty := 112) 0 3 1 (iv t.s.cf.p1) rfl plain3, oBl (b := b) (cs := acA t ⟨a, n, m, v2, v3, v4⟩ y) (ty := 112) 0 3 2 (iv t.s.cf.p2) rfl plain3, oBl (b := b) (cs := acA t ⟨a, n, m, v2, v3, v4⟩ y) (ty := 112) 0 3 3 (iv t.s.cf.p3) rfl plain3, oF h2 y 0 fun y1 => [fin y1]]) (fun R β w => by kernel_rfl)
end
end Go.Proofs.YtebnpblincgjlaaDoor
