import Derived.Test.YtccbdmccfbjmeaaDoorG4
set_option linter.unusedSimpArgs false
set_option linter.unusedVariables false
section
/- A verified evaluator: operations over values and blocks of one's own. -/
namespace Go.Proofs.YtccbdmccfbjmeaaDoor.Ev
open Go.RowKit

/-- A value of a slot: any value; a place in the l-th block of one's own; all n of that block's elements, as a slice; what is made of the places of the first n blocks. -/
inductive SV where
  | v (x : Value)
  | p (l o : Nat)
  | s (l n : Nat)
  | g (n : Nat) (f : (Nat → Nat) → Value)
  | u
def SV.den (β : List Nat) : SV → Value
  | .v x => x
  | .p l o => .pointer (some ⟨β.getD l 0, o, none⟩)
  | .s l n => .slice (some ⟨β.getD l 0, 0, none⟩) n n
  | .g n f => f (fun l => bif decide (l < n) then β.getD l 0 else 0)
  | .u => undef
/-- What it is told as, it is; nothing is told of 'u'. -/
def SV.ok (β : List Nat) : SV → Value → Prop
  | .u, _ => True
  | sv, x => x = sv.den β
def SV.known : SV → Bool
  | .u => false
  | _ => true
theorem SV.ok_den {β : List Nat} {sv : SV} {x : Value} (h : sv.ok β x) (hk : sv.known = true) : x = sv.den β := by
  cases sv <;> first | exact h | cases hk
theorem SV.den_ok {β : List Nat} {sv : SV} : sv.ok β (sv.den β) := by
  cases sv <;> first | rfl | trivial
def SV.lt (n : Nat) : SV → Prop
  | .v _ => True
  | .p l _ => l < n
  | .s l _ => l < n
  | .g k _ => k ≤ n
  | .u => True
inductive Tk : Type 1 where
  | r (x : Result Next)
  | z (x : Result Value)
  | b (x : Bool)
  | n (x : Option Nat)
  | nl (x : List Nat)
  | o (x : Option Value)
  | m (x : Mem)
  | d (x : Bds)
  | v (x : Value)
  | s (x : Sem Next)
  | f (x : List SV)
  | k (x : Code)
  | g (x : Value → Mem → Bds → Prop)
  | gs (x : Exit → List SV → Mem → Bds → Prop)
  | ex (x : Exit)
  | fn (Y : Type) (f : Y → List Tk)
abbrev Chk := List Nat → World → List (Tk × Tk)
def okk (l : List (Tk × Tk)) : Prop := l.map Prod.fst = l.map Prod.snd
theorem okk_cons {x y : Tk} {l : List (Tk × Tk)} : okk ((x, y) :: l) ↔ x = y ∧ okk l := by unfold okk; simp
theorem okk_app {k l : List (Tk × Tk)} : okk (k ++ l) ↔ okk k ∧ okk l := by
  unfold okk
  rw [List.map_append, List.map_append]
  constructor
  · intro h; exact List.append_inj h (by simp)
  · rintro ⟨h1, h2⟩; rw [h1, h2]
/-- A step, by what is run. -/
def stepS (P : Program) (s : Sem Next) (K : Value → World → Prop) (w : World) : Prop :=
  match s.run P w with
  | .ok (.value u) w' => K u w'
  | .ok .skip w' => K undef w'
  | .ok (.enter f args) w' => Calls P f args w' fun e w'' => ∃ u, e = .returned u ∧ K u w''
  | .ok (.row row args) w' => Rows P row args w' fun u w'' => K u w''
  | _ => False
theorem stepW_is {P : Program} {o : Oper} {ρ : Operand → Value} {K : Value → World → Prop} {w : World} : stepW P o ρ K w = stepS P (execOp ρ o) K w := rfl
/-- What is run: a step, or a call. -/
inductive Wh where
  | s (f : List Nat → Sem Next)
  | c (f : FuncId) (args : List SV)
def whStep (P : Program) (wh : Wh) (β : List Nat) (K : Value → World → Prop) (w : World) : Prop := match wh with
  | .s f => stepS P (f β) K w
  | .c f args => Calls P f (args.map (SV.den β)).toArray w fun e w'' => ∃ u, e = .returned u ∧ K u w''
abbrev Fm := Nat → Option (Nat × Array Value × TypeId)
def upF (F : Fm) (k : Nat) (x : Nat × Array Value × TypeId) : Fm := fun j => if j = k then some x else F j
structure St where
  fr : List SV
  m : Mem
  A : Bds
/-- A frame and a world, as they are told. -/
structure Rel (w0 : World) (F : Fm) (β : List Nat) (s : St) (a : Act) (w : World) : Prop where
  sz : a.tmps.size = s.fr.length
  fr : ∀ (i : Nat) (sv : SV), s.fr[i]? = some sv → sv.ok β (a.tmps.getD i undef)
  df : a.defers = []
  len : β.length = s.m.length
  wf : ∀ sv ∈ s.fr, sv.lt s.m.length
  k : Kv w0 F β s.m s.A w
/-- What ends a walk: that the outcome is as it is asked. -/
abbrev Goal := Value → Mem → Bds → Prop
/-- Code that leads from s to one of s', and ends so; the first q blocks stay where they are. -/
def TY (P : Program) (q : Nat) (c : Code) (s : St) (Y : Type) (e : Exit) (s' : Y → St) : Prop :=
  ∀ w0 F β a w, Rel w0 F β s a w → ∀ Q : Exit → Act → World → Prop, (∀ y β' a' w', β'.take q = β.take q → Rel w0 F β' (s' y) a' w' → Q e a' w') → c.wp P Q a w
/-- What a step is told: b a test's outcome; r another way to write a number (k: this one stays); c a call's answer; q two structs held against each other; x what becomes of owned things; e, h, n so, whatever comes of it: of owned things, of one of one's own blocks, too, of a new one; a what is owned, said another way (ahead of a region, or of a loop); l of a loop. -/
inductive Ora (P : Program) : Type 1 where
  | b (c v : Bool) (h : c = v)
  | r (v0 v1 : Value) (h : v0 = v1)
  | k
  | c (f : FuncId) (args : Array Value) (v : Value) (h : ∀ w, Calls P f args w fun e w' => e = .returned v ∧ Below w.heap.size w w')
  | q (op : BinOp) (ty : TypeId) (a b : Array Value) (v : Bool) (h : ∀ w, (binOp op ty (.agg a) (.agg b)).run P w = .ok (.bool v) w)
  | x (rd : Bool) (wh : Wh) (p : Nat) (A A' : Bds) (v : Value)
      (h : ∀ w0 F R β w, Kf w0 F ((sepL A).sep R) w → whStep P wh β (fun u w' => u = v ∧ Kf w0 F ((sepL A').sep R) w') w)
  | e (Y : Type) (y0 : Y) (wh : Wh) (lo : List (Nat × Array Value × TypeId)) (p : Nat) (A : Bds) (A' : Y → Bds) (v : Y → Value)
      (h : ∀ w0 F R β w, (∀ x ∈ lo, ∃ k, F k = some (β.getD x.1 0, x.2)) → Kf w0 F ((sepL A).sep R) w → whStep P wh β (fun u w' => ∃ y, u = v y ∧ Kf w0 F ((sepL (A' y)).sep R) w') w) (rest : Y → List (Ora P))
  | h (Y : Type) (wh : Wh) (l : Nat) (cs : Array Value) (ty : TypeId) (p : Nat) (A : Bds) (cs' : Y → Array Value) (A' : Y → Bds) (v : Y → Value)
      (h : ∀ w0 F R β k w, F k = some (β.getD l 0, cs, ty) → Kf w0 F ((sepL A).sep R) w → whStep P wh β (fun u w' => ∃ y, u = v y ∧ Kf w0 (upF F k (β.getD l 0, cs' y, ty)) ((sepL (A' y)).sep R) w') w) (rest : Y → List (Ora P))
  | n (Y : Type) (wh : Wh) (p : Nat) (A : Bds) (cs' : Y → Array Value) (ty : TypeId) (A' : Y → Bds)
      (h : ∀ w0 F R β k w, F k = none → Kf w0 F ((sepL A).sep R) w → whStep P wh β (fun u w' => ∃ y b, u = .pointer (some ⟨b, 0, none⟩) ∧ Kf w0 (upF F k (b, cs' y, ty)) ((sepL (A' y)).sep R) w') w) (rest : Y → List (Ora P))
  | a (p : Nat) (A A' : Bds) (h : ∀ w0 F R w, Kf w0 F ((sepL A).sep R) w → Kf w0 F ((sepL A').sep R) w)
  | fin (G : Value → Mem → Bds → Prop) (u : Value) (m : Mem) (A : Bds) (h : G u m A)
  | fis (G : Exit → St → Prop) (e : Exit) (s : St) (h : G e s)
  | l (q : Nat) (c : Code) (s : St) (Y : Type) (e : Exit) (s' : Y → St) (h : TY P q c s Y e s') (rest : Y → List (Ora P))
  | sp (c : Bool) (t : c = true → List (Ora P)) (e : c = false → List (Ora P))
  | so (α : Type) (o : Option α) (n : o = none → List (Ora P)) (s : (x : α) → o = some x → List (Ora P))
  | ob (Y : Type) (y : Y) (f : Y → List (Ora P))
  | no (h : False)
  | us (p : Nat) (A : Bds) (Y : Type) (q : Y → Prop) (h : ∀ w, (sepL A).p w → ∃ y, q y) (f : (y : Y) → q y → List (Ora P))
  | bar
  | t (q : Nat) (c : Code) (s : St) (Y : Type) (e : Exit) (s' : Y → St) (h : TY P q c s Y e s') (rest : Y → List (Ora P))
  | y (wh : Wh) (lo : List (Nat × Array Value × TypeId)) (p : Nat) (A A' : Bds) (v : Value)
      (h : ∀ w0 F R β w, (∀ x ∈ lo, ∃ k, F k = some (β.getD x.1 0, x.2)) → Kf w0 F ((sepL A).sep R) w → whStep P wh β (fun u w' => u = v ∧ Kf w0 F ((sepL A').sep R) w') w)
def rhoS (fr : List SV) : Operand → SV
  | .tmp t => fr.getD t (.v undef)
  | .const v => .v v
  | .global g => .v (.pointer (some ⟨g, 0, none⟩))
  | .func f => .v (.func (.func f) #[] #[])
def sizeT (P : Program) (ty : TypeId) : Nat := ((P.info? ty).map (·.size)).getD 0
def rowT (P : Program) (ty : TypeId) : Bool := match P.underlying ty with | some d => d.isRow | none => false
def offOf : Result Next → Nat
  | .ok (.value (.pointer (some a))) _ => a.off
  | _ => 0
def valOf : Result Next → Value
  | .ok (.value v) _ => v
  | _ => undef
def zOf : Result Value → Value
  | .ok v _ => v
  | _ => undef
def headK (v : Value) : SV := match v with
  | .int k n => .v (.int k n)
  | .bool b => .v (.bool b)
  | .agg a => .v (.agg a)
  | .tuple a => .v (.tuple a)
  | .pointer a => .v (.pointer a)
  | .slice a n m => .v (.slice a n m)
  | v => .v v
def nSV : SV → Nat
  | .p l _ => l + 1
  | .s l _ => l + 1
  | .g n _ => n
  | _ => 0
def nOf (o : Oper) (ρ : Operand → SV) : Nat := o.op.operands.toList.foldl (fun n x => max n (nSV (ρ x))) 0
def dnK (η : Nat → Nat) : SV → Value
  | .v x => x
  | .p l o => .pointer (some ⟨η l, o, none⟩)
  | .s l n => .slice (some ⟨η l, 0, none⟩) n n
  | .g n f => f (fun l => bif decide (l < n) then η l else 0)
  | .u => undef
def pureSV (P : Program) (o : Oper) (ρ : Operand → SV) : SV :=
  match o.op with
  | .move x => ρ x
  | .assign x => ρ x
  | .pick c a b => match ρ c with
    | .v (.bool true) => ρ a
    | .v (.bool false) => ρ b
    | _ => .v undef
  | .extract t ix => match ρ t with
    | .v (.tuple vs) => .v (vs.getD ix undef)
    | _ => .v undef
  | .fieldAddr _ x _ => match ρ x with
    | .p l _ => .p l (offOf ((execOp (fun x => (ρ x).den []) o).run P default))
    | _ => headK (valOf ((execOp (fun x => (ρ x).den []) o).run P default))
  | .indexAddr _ x _ => match ρ x with
    | .p l _ => .p l (offOf ((execOp (fun x => (ρ x).den []) o).run P default))
    | _ => headK (valOf ((execOp (fun x => (ρ x).den []) o).run P default))
  | .nilCheck x => ρ x
  | .makeFunc _ _ _ => bif nOf o ρ == 0 then .v (valOf ((execOp (fun x => (ρ x).den []) o).run P default)) else .g (nOf o ρ) (fun η => valOf ((execOp (fun x => dnK η (ρ x)) o).run P default))
  | .field _ _ _ => .v (valOf ((execOp (fun x => (ρ x).den []) o).run P default))
  | .index _ _ _ => .v (valOf ((execOp (fun x => (ρ x).den []) o).run P default))
  | _ => headK (valOf ((execOp (fun x => (ρ x).den []) o).run P default))
def part (cs : Array Value) (o n : Nat) : Array Value := bif o == 0 && n == cs.size then cs else cs.extract o (o + n)
/-- Needs it to be told what becomes of it? -/
def told : Op → Bool
  | .lookup .. | .mapUpdate .. | .insert .. | .mapEntry .. | .entryStore .. | .range .. | .next .. | .entry .. | .makeMap .. | .makeChan .. | .makeSlice .. => true
  | .recv .. | .send .. | .select .. | .go .. | .defer .. | .panic .. | .ready .. | .waits .. => true
  | _ => false
/-- Are two structs or arrays held against each other? -/
def isQ (ρ : Operand → SV) : Op → Bool
  | .binOp .eql _ x _ _ | .binOp .neq _ x _ _ => match ρ x with | .v (.agg _) => true | _ => false
  | .binOp .add _ x _ _ => match ρ x with | .v (.string _) => true | _ => false
  | .index _ x _ => match ρ x with | .v (.agg y) => (match y.toList with | .string _ :: _ => true | _ => false) | _ => false
  | _ => false
def qChk (P : Program) (o : Oper) (ρ : Operand → SV) (op : BinOp) (ty : TypeId) (a b : Array Value) : Chk := fun β _ =>
  match o.op with
  | .binOp op' ty' x y _ => [(.v ((ρ x).den β), .v (.agg a)), (.v ((ρ y).den β), .v (.agg b)), (.b (op' == op && (ty' == ty && !P.eqGuardType P.depth ty)), .b true)]
  | _ => [(.b false, .b true)]
abbrev Res (P : Program) := SV × Mem × Bds × List (Ora P) × Chk
section
variable (P : Program) (o : Oper) (ρ : Operand → SV) (m : Mem) (A : Bds) (r : List (Ora P))
def whChk (wh : Wh) : Chk := fun β w => match wh with
  | .s f => [(.s (execOp (fun x => (ρ x).den β) o), .s (f β))]
  | .c f args => [(.r ((execOp (fun x => (ρ x).den β) o).run P w), .r (.ok (.enter f (args.map (SV.den β)).toArray) w))]
/-- The owned things that a step is told of: those from p on. -/
def atB (A A1 : Bds) (p : Nat) : List (Tk × Tk) := [(.d ((A.drop p).take A1.length), .d A1)]
def setB (A A1 A2 : Bds) (p : Nat) : Bds := A.take p ++ (A2 ++ (A.drop p).drop A1.length)
def evG : Option (Res P) :=
  match r with
  | .x _ wh p A1 A2 v _ :: r' => some (.v v, m, setB A A1 A2 p, r', fun β w => whChk P o ρ wh β w ++ atB A A1 p)
  | .q op ty a b v _ :: r' => some (.v (.bool v), m, A, r', qChk P o ρ op ty a b)
  | .c f args v _ :: r' => some (.v v, m, A, r', fun β w => [(.r ((execOp (fun x => (ρ x).den β) o).run P w), .r (.ok (.enter f args) w))])
  | .y wh lo p A1 A2 v _ :: r' => some (.v v, m, setB A A1 A2 p, r', fun β w => whChk P o ρ wh β w ++ (atB A A1 p ++ lo.map (fun x => (.m (m[x.1]?).toList, .m [x.2]))))
  | _ => none
def evPure : Option (Res P) :=
  some (pureSV P o ρ, m, A, r, fun β w => [(.r ((execOp (fun x => (ρ x).den β) o).run P w), .r (.ok (.value ((pureSV P o ρ).den β)) w))])
def evLoad (ty : TypeId) (l off : Nat) : Option (Res P) :=
  match m[l]? with
  | some (cs, _) =>
    bif rowT P ty then some (.v (.agg (part cs off (sizeT P ty))), m, A, r, fun _ _ => [(.n ((P.info? ty).map (·.size)), .n (some (sizeT P ty))), (.b (decide (off + sizeT P ty ≤ cs.size)), .b true)])
    else some (.v (cs.getD off undef), m, A, r, fun _ _ => [(.b (plainT (P.underlying ty)), .b true), (.o cs[off]?, .o (some (cs.getD off undef)))])
  | none => none
def evStore (ty : TypeId) (l off : Nat) (u : Value) : Option (Res P) :=
  match m[l]? with
  | some (cs, t) => some (.v undef, m.set l (setL cs off u.cells.toList, t), A, r, fun _ _ => [(.n ((P.info? ty).map (·.size)), .n (some u.cells.size)), (.b (decide (off + u.cells.size ≤ cs.size)), .b true), (.b (u.cells.all (·.oneCell')), .b true)])
  | none => none
def evNew (ty : TypeId) (u : Value) (k : Chk) : Option (Res P) := some (.p m.length 0, m ++ [(u.cells, ty)], A, r, k)
/-- Numbers that are reckoned. -/
def isAr : Op → Bool
  | .binOp .add .. | .binOp .sub .. | .binOp .mul .. | .binOp .quo .. | .binOp .rem .. | .binOp .and .. | .binOp .or .. | .binOp .xor .. | .binOp .andNot .. | .binOp .shl .. | .binOp .shr .. => true
  | .convert .. | .unOp .neg .. | .unOp .xor .. => true
  | _ => false
/-- Does it have to be told what becomes of it? -/
def asks : Bool :=
  match o.op with
  | .load _ x => match ρ x with | .p .. => false | _ => true
  | .store _ x _ => match ρ x with | .p .. => false | _ => true
  | .indexAddr _ x _ => match ρ x with | .p .. => false | _ => true
  | .call c => match c.callee with
    | .builtin .len => false
    | .builtin .cap => false
    | .builtin .min => false
    | .builtin .max => false
    | _ => true
  | op => told op || isQ ρ op
/-- A variable may be told of, too, so that it is owned. -/
def asksR : Bool := asks o ρ || match o.op, r with | .alloc _, .e _ _ (.s _) _ _ [] .. :: _ => true | .buildSlice .., .e _ _ (.s _) _ _ [] .. :: _ => true | _, _ => false
def knows : Bool := o.op.operands.toList.all (fun x => (ρ x).known) && !isSel o.op
/-- The cells of a slice that is made of its parts. -/
def cellsOf : Result Next → Array Value × TypeId
  | .ok _ w => match w.heap[0]? with
    | some (Obj.cells cs t _) => (cs, t)
    | _ => (#[], 0)
  | _ => (#[], 0)
def evSl (n : Nat) (x : Array Value × TypeId) : Option (Res P) :=
  some (.s m.length n, m ++ [x], A, r, fun β w => [(.r ((execOp (fun x => (ρ x).den β) o).run P w), .r (.ok (.value (.slice (some ⟨w.heap.size, 0, none⟩) n n)) (w.alloc (.cells x.1 x.2))))])
def evOp : Option (Res P) :=
  bif asks o ρ then evG P o ρ m A r else
  match o.op with
  | .load ty x => match ρ x with
    | .p l off => evLoad P m A r ty l off
    | _ => none
  | .store ty x y => match ρ x with
    | .p l off => match ρ y with
      | .v u => evStore P m A r ty l off u
      | _ => none
    | _ => none
  | .box ty x => match ρ x with
    | .v u => evNew P m A r ty u fun _ _ => []
    | _ => none
  | .alloc ty => evNew P m A r ty (zOf ((zeroValue ty).run P default)) fun _ w => [(.z ((zeroValue ty).run P w), .z (.ok (zOf ((zeroValue ty).run P default)) w))]
  | .buildSlice _ n _ => evSl P o ρ m A r n (cellsOf ((execOp (fun x => (ρ x).den []) o).run P default))
  | _ => evPure P o ρ m A r
/-- An operation, whatever comes of it. -/
def evH : Option (Σ Y : Type, (Y → SV × Mem × Bds × List (Ora P)) × Chk) :=
  match r with
  | .e Y _ wh lo p A1 A2 v _ rest :: _ => some ⟨Y, fun y => (.v (v y), m, setB A A1 (A2 y) p, rest y), fun β w => whChk P o ρ wh β w ++ (atB A A1 p ++ lo.map (fun x => (.m (m[x.1]?).toList, .m [x.2])))⟩
  | .h Y wh l cs ty p A1 cs2 A2 v _ rest :: _ => some ⟨Y, fun y => (.v (v y), m.set l (cs2 y, ty), setB A A1 (A2 y) p, rest y), fun β w => whChk P o ρ wh β w ++ (atB A A1 p ++ [(.m (m[l]?).toList, .m [(cs, ty)])])⟩
  | .n Y wh p A1 cs2 ty A2 _ rest :: _ => some ⟨Y, fun y => (.p m.length 0, m ++ [(cs2 y, ty)], setB A A1 (A2 y) p, rest y), fun β w => whChk P o ρ wh β w ++ atB A A1 p⟩
  | _ => none
end
section
variable {P : Program} {o : Oper} {ρ : Operand → SV} {m m' : Mem} {A A' : Bds} {r r' : List (Ora P)} {sv : SV} {k : Chk} {β : List Nat} {w0 w : World} {F : Fm}
theorem bel_app {n : Nat} {t : List Nat} (h : n ≤ β.length) : (fun l => bif decide (l < n) then (β ++ t).getD l 0 else 0) = fun l => bif decide (l < n) then β.getD l 0 else 0 := by
  funext l
  cases c : decide (l < n) with
  | false => rfl
  | true =>
    have c := of_decide_eq_true c
    show (β ++ t).getD l 0 = β.getD l 0
    rw [List.getD_eq_getElem?_getD, List.getD_eq_getElem?_getD, List.getElem?_append_left (by omega)]
theorem SV.den_app {sv : SV} {n : Nat} (h : sv.lt n) (hn : β.length = n) (t : List Nat) : sv.den (β ++ t) = sv.den β := by
  cases sv with
  | v x => rfl
  | u => rfl
  | p l o =>
    have h : l < n := h
    show Value.pointer _ = Value.pointer _
    rw [List.getD_eq_getElem?_getD, List.getD_eq_getElem?_getD, List.getElem?_append_left (by omega)]
  | s l o =>
    have h : l < n := h
    show Value.slice _ _ _ = Value.slice _ _ _
    rw [List.getD_eq_getElem?_getD, List.getD_eq_getElem?_getD, List.getElem?_append_left (by omega)]
  | g k f =>
    have h : k ≤ n := h
    show f _ = f _
    rw [bel_app (by omega)]
theorem SV.lt_mono {sv : SV} {n n' : Nat} (h : sv.lt n) (hn : n ≤ n') : sv.lt n' := by
  cases sv with
  | v x => trivial
  | u => trivial
  | p l o => exact Nat.lt_of_lt_of_le h hn
  | s l o => exact Nat.lt_of_lt_of_le h hn
  | g k f => exact Nat.le_trans h hn
theorem stepS_mono {s : Sem Next} {K K' : Value → World → Prop} (h : stepS P s K w) (hk : ∀ u w', K u w' → K' u w') : stepS P s K' w := by
  unfold stepS at h ⊢
  split at h
  · exact hk _ _ h
  · exact hk _ _ h
  · exact h.mono fun e w2 ⟨u, e1, e2⟩ => ⟨u, e1, hk _ _ e2⟩
  · exact Rows.mono h fun _ _ h => hk _ _ h
  · exact h.elim
/-- What an operation comes to. -/
def After (P : Program) (o : Oper) (ρ : Operand → Value) (F : Fm) (β : List Nat) (w0 : World) (sv : SV) (m' : Mem) (A' : Bds) (w : World) : Prop :=
  sv.lt m'.length ∧ stepW P o ρ (fun u w' => ∃ t, (β ++ t).length = m'.length ∧ u = sv.den (β ++ t) ∧ Kv w0 F (β ++ t) m' A' w') w
theorem after_val (hs : sv.lt m.length) (hl : β.length = m.length) (K : Kv w0 F β m A w) {ρ : Operand → Value} (h : (execOp ρ o).run P w = .ok (.value (sv.den β)) w) : After P o ρ F β w0 sv m A w := by
  refine ⟨hs, stepW_val h ⟨[], by simpa using hl, by simp, by simpa using K⟩⟩
theorem run_q {op : BinOp} {ty : TypeId} {a b : Array Value} {v : Bool} (h : ∀ w, (binOp op ty (.agg a) (.agg b)).run P w = .ok (.bool v) w) (hk : okk (qChk P o ρ op ty a b β w)) : (execOp (fun x => (ρ x).den β) o).run P w = .ok (.value (.bool v)) w := by
  unfold qChk at hk
  split at hk
  · next op' ty' x y t2 ho =>
    simp only [okk_cons] at hk
    obtain ⟨q1, q2, q3, -⟩ := hk
    injection q1 with q1
    injection q2 with q2
    injection q3 with q3
    rw [Bool.and_eq_true, Bool.and_eq_true, beq_iff_eq, beq_iff_eq, Bool.not_eq_true'] at q3
    obtain ⟨rfl, rfl, q3⟩ := q3
    unfold execOp
    have e2 : (eqGuard op' ty' x y (.agg a) (.agg b)).run P w = .ok () w := by
      unfold eqGuard
      cases op' <;> simp [q3]
    simp only [ho, q1, q2, Sem.run_bind, e2, Result.andThen_ok, h, Sem.run_pure]
  · simp only [okk_cons] at hk
    cases hk.1
theorem whStep_mono {wh : Wh} {K K' : Value → World → Prop} (h : whStep P wh β K w) (hk : ∀ u w', K u w' → K' u w') : whStep P wh β K' w := by
  cases wh with
  | s f => exact stepS_mono h hk
  | c f args => exact Calls.mono h fun e w2 ⟨u, e1, e2⟩ => ⟨u, e1, hk _ _ e2⟩
theorem wh_step {wh : Wh} {K : Value → World → Prop} (hk : okk (whChk P o ρ wh β w)) (h : whStep P wh β K w) : stepW P o (fun x => (ρ x).den β) K w := by
  unfold whChk at hk
  cases wh with
  | s f =>
    simp only [okk_cons] at hk
    obtain ⟨q, -⟩ := hk
    injection q with q
    rw [stepW_is, q]
    exact h
  | c f args =>
    simp only [okk_cons] at hk
    obtain ⟨q, -⟩ := hk
    injection q with q
    exact stepW_call q h
theorem atB_eq {A1 A2 : Bds} {p : Nat} (hk : okk (atB A A1 p)) : A = A.take p ++ (A1 ++ (A.drop p).drop A1.length) := by
  unfold atB at hk
  simp only [okk_cons] at hk
  obtain ⟨q, -⟩ := hk
  injection q with q
  conv => lhs; rw [← List.take_append_drop p A, ← List.take_append_drop A1.length (A.drop p), q]
theorem mid_in {A1 : Bds} {p : Nat} (hk : okk (atB A A1 p)) {F : Fm} (K : Kf w0 F (sepL A) w) : Kf w0 F ((sepL A1).sep (sepL (A.take p ++ (A.drop p).drop A1.length))) w := by
  have e := atB_eq (A2 := []) hk
  rw [e] at K
  exact Kf.toMid K
theorem okk_map1 {α : Type} {f g : α → Tk} {l : List α} (h : okk (l.map fun x => (f x, g x))) {x : α} (hx : x ∈ l) : f x = g x := by
  induction l with
  | nil => cases hx
  | cons y l ih =>
    rw [List.map_cons, okk_cons] at h
    rcases List.mem_cons.1 hx with rfl | hx
    · exact h.1
    · exact ih h.2 hx
theorem evG_sound (h : evG P o ρ m A r = some (sv, m', A', r', k)) (hk : ∀ β w, okk (k β w)) (hl : β.length = m.length) (K : Kv w0 F β m A w) : After P o (fun x => (ρ x).den β) F β w0 sv m' A' w := by
  unfold evG at h
  split at h
  · next rd wh p A1 A2 v hh r1 =>
    injection h with h
    obtain ⟨rfl, rfl, rfl, rfl, rfl⟩ := h
    have q := okk_app.1 (hk β w)
    refine ⟨trivial, wh_step q.1 (whStep_mono (hh w0 _ _ β w (mid_in q.2 K)) fun u w' ⟨e, k⟩ => ⟨[], by simpa using hl, e, ?_⟩)⟩
    rw [List.append_nil]
    exact Kf.ofMid k
  · next op ty a b v hh r1 =>
    injection h with h
    obtain ⟨rfl, rfl, rfl, rfl, rfl⟩ := h
    exact after_val (sv := .v _) trivial hl K (run_q hh (hk β w))
  · next f args v hc r1 =>
    injection h with h
    obtain ⟨rfl, rfl, rfl, rfl, rfl⟩ := h
    have q := hk β w
    simp only [okk_cons] at q
    obtain ⟨q1, -⟩ := q
    injection q1 with q1
    exact ⟨trivial, stepW_call q1 ((hc w).mono fun e w2 ⟨e1, e2⟩ => ⟨v, e1, [], by simpa using hl, rfl, by simpa using K.next e2⟩)⟩
  · next wh lo p A1 A2 v hh r1 =>
    injection h with h
    obtain ⟨rfl, rfl, rfl, rfl, rfl⟩ := h
    have q := okk_app.1 (hk β w)
    have q2 := okk_app.1 q.2
    have hlo : ∀ x ∈ lo, ∃ k, mix β m F k = some (β.getD x.1 0, x.2) := fun x hx => by
      have q3 := okk_map1 q2.2 hx
      injection q3 with q3
      refine ⟨2 * x.1, ?_⟩
      rw [mix_own]
      cases c : m[x.1]? with
      | none => rw [c] at q3; cases q3
      | some y => rw [c] at q3; simp only [Option.toList_some, List.cons.injEq, and_true] at q3; rw [q3]; rfl
    refine ⟨trivial, wh_step q.1 (whStep_mono (hh w0 _ _ β w hlo (mid_in q2.1 K)) fun u w' ⟨e, k⟩ => ⟨[], by simpa using hl, e, ?_⟩)⟩
    rw [List.append_nil]
    exact Kf.ofMid k
  · cases h
/-- What an operation comes to, whatever that is. -/
def AfterH (P : Program) (o : Oper) (ρ : Operand → Value) (F : Fm) (β : List Nat) (w0 : World) (Y : Type) (f : Y → SV × Mem × Bds × List (Ora P)) (w : World) : Prop :=
  stepW P o ρ (fun u w' => ∃ y t, (f y).1.lt (f y).2.1.length ∧ (β ++ t).length = (f y).2.1.length ∧ u = (f y).1.den (β ++ t) ∧ Kv w0 F (β ++ t) (f y).2.1 (f y).2.2.1 w') w
theorem mix_set {l : Nat} {cs cs2 : Array Value} {ty : TypeId} (hl : β.length = m.length) (e : m[l]? = some (cs, ty)) (j : Nat) : mix β (m.set l (cs2, ty)) F j = upF (mix β m F) (2 * l) (β.getD l 0, cs2, ty) j := by
  have hlt := (List.getElem?_eq_some_iff.1 e).1
  unfold upF mix
  by_cases c : j % 2 = 0
  · rw [if_pos c, if_pos c]
    by_cases d : j / 2 = l
    · rw [if_pos (by omega), d, List.getElem?_set_self hlt]
      rfl
    · rw [if_neg (by omega), List.getElem?_set_ne (fun e => d e.symm)]
  · rw [if_neg c, if_neg (by omega), if_neg c]
theorem mix_new {b : Nat} {cs2 : Array Value} {ty : TypeId} (hl : β.length = m.length) (j : Nat) : mix (β ++ [b]) (m ++ [(cs2, ty)]) F j = upF (mix β m F) (2 * m.length) (b, cs2, ty) j := by
  unfold upF mix
  by_cases c : j % 2 = 0
  · rw [if_pos c, if_pos c]
    by_cases d : j / 2 < m.length
    · rw [if_neg (by omega), List.getElem?_append_left d, List.getD_eq_getElem?_getD, List.getD_eq_getElem?_getD, List.getElem?_append_left (by omega)]
    · by_cases e : j / 2 = m.length
      · rw [if_pos (by omega), e, List.getElem?_concat_length, List.getD_eq_getElem?_getD, ← hl, List.getElem?_concat_length]
        rfl
      · rw [if_neg (by omega), List.getElem?_eq_none (by simp; omega), List.getElem?_eq_none (by omega)]
        rfl
  · rw [if_neg c, if_neg (by omega), if_neg c]
theorem evH_sound {Y : Type} {f : Y → SV × Mem × Bds × List (Ora P)} (h : evH P o ρ m A r = some ⟨Y, f, k⟩) (hk : ∀ β w, okk (k β w)) (hl : β.length = m.length) (K : Kv w0 F β m A w) : AfterH P o (fun x => (ρ x).den β) F β w0 Y f w := by
  unfold evH at h
  split at h
  · injection h with h
    injection h with h1 h2
    subst h1
    have h2 := eq_of_heq h2
    injection h2 with h2 h3
    subst h2 h3
    next Y y0 wh lo p A1 A2 v hh rest r1 =>
    have q := okk_app.1 (hk β w)
    have q2 := okk_app.1 q.2
    have hlo : ∀ x ∈ lo, ∃ k, mix β m F k = some (β.getD x.1 0, x.2) := fun x hx => by
      have q3 := okk_map1 q2.2 hx
      injection q3 with q3
      refine ⟨2 * x.1, ?_⟩
      rw [mix_own]
      cases c : m[x.1]? with
      | none => rw [c] at q3; cases q3
      | some y => rw [c] at q3; simp only [Option.toList_some, List.cons.injEq, and_true] at q3; rw [q3]; rfl
    refine wh_step q.1 (whStep_mono (hh w0 _ _ β w hlo (mid_in q2.1 K)) fun u w' ⟨y, e, k⟩ => ⟨y, [], trivial, by simpa using hl, e, ?_⟩)
    rw [List.append_nil]
    exact Kf.ofMid k
  · injection h with h
    injection h with h1 h2
    subst h1
    have h2 := eq_of_heq h2
    injection h2 with h2 h3
    subst h2 h3
    next Y wh l cs ty p A1 cs2 A2 v hh rest r1 =>
    have q := okk_app.1 (hk β w)
    have q2 := okk_app.1 q.2
    have e : m[l]? = some (cs, ty) := by
      have q3 := q2.2
      simp only [okk_cons] at q3
      obtain ⟨q3, -⟩ := q3
      injection q3 with q3
      cases c : m[l]? with
      | none => rw [c] at q3; cases q3
      | some x => rw [c] at q3; simpa using q3
    refine wh_step q.1 (whStep_mono (hh w0 (mix β m F) _ β (2 * l) w (by rw [mix_own, e]; rfl) (mid_in q2.1 K)) fun u w' ⟨y, e2, k⟩ => ⟨y, [], trivial, by simpa using hl, e2, ?_⟩)
    rw [List.append_nil]
    exact Kf.eq (Kf.ofMid k) (mix_set hl e)
  · injection h with h
    injection h with h1 h2
    subst h1
    have h2 := eq_of_heq h2
    injection h2 with h2 h3
    subst h2 h3
    next Y wh p A1 cs2 ty A2 hh rest r1 =>
    have q := okk_app.1 (hk β w)
    refine wh_step q.1 (whStep_mono (hh w0 (mix β m F) _ β (2 * m.length) w (by rw [mix_own, List.getElem?_eq_none (Nat.le_refl _)]; rfl) (mid_in q.2 K)) fun u w' ⟨y, b, e2, k⟩ => ⟨y, [b], ?_, by simp [hl], ?_, ?_⟩)
    · show m.length < _
      simp
    · rw [e2]
      show Value.pointer _ = Value.pointer _
      rw [List.getD_eq_getElem?_getD, ← hl, List.getElem?_concat_length]
      rfl
    · exact Kf.eq (Kf.ofMid k) (mix_new hl)
  · cases h
theorem headK_lt {v : Value} {n : Nat} : (headK v).lt n := by cases v <;> trivial
theorem nOf_le (hρ : ∀ x, (ρ x).lt m.length) : nOf o ρ ≤ m.length := by
  unfold nOf
  have : ∀ (l : List Operand) (n : Nat), n ≤ m.length → l.foldl (fun n x => max n (nSV (ρ x))) n ≤ m.length := by
    intro l
    induction l with
    | nil => intro n h; exact h
    | cons x l ih =>
      intro n h
      refine ih _ ?_
      have q := hρ x
      have : nSV (ρ x) ≤ m.length := by
        cases c : ρ x with
        | v y => exact Nat.zero_le _
        | u => exact Nat.zero_le _
        | p l o => rw [c] at q; exact q
        | s l o => rw [c] at q; exact q
        | g k f => rw [c] at q; exact q
      show max n (nSV (ρ x)) ≤ m.length
      omega
  exact this _ 0 (Nat.zero_le _)
theorem pure_lt (hρ : ∀ x, (ρ x).lt m.length) : (pureSV P o ρ).lt m.length := by
  unfold pureSV
  split
  · exact hρ _
  · exact hρ _
  · split
    · exact hρ _
    · exact hρ _
    · trivial
  · split <;> trivial
  · split
    · next x _ _ _ l _ e => have q := hρ x; rw [e] at q; exact q
    · exact headK_lt
  · split
    · next x _ _ _ l _ e => have q := hρ x; rw [e] at q; exact q
    · exact headK_lt
  · exact hρ _
  · cases nOf o ρ == 0 with
    | true => trivial
    | false => exact nOf_le hρ
  · trivial
  · trivial
  · exact headK_lt
theorem evPure_sound (h : evPure P o ρ m A r = some (sv, m', A', r', k)) (hk : ∀ β w, okk (k β w)) (hρ : ∀ x, (ρ x).lt m.length) (hl : β.length = m.length) (K : Kv w0 F β m A w) : After P o (fun x => (ρ x).den β) F β w0 sv m' A' w := by
  unfold evPure at h
  injection h with h
  obtain ⟨rfl, rfl, rfl, rfl, rfl⟩ := h
  have q := hk β w
  simp only [okk_cons] at q
  obtain ⟨q1, -⟩ := q
  injection q1 with q1
  exact after_val (pure_lt hρ) hl K q1
theorem run_storeVar_any (w : World) (b o : Nat) (ty : TypeId) (v : Value) (ht : w.there b o v.cells.size) (hi : (P.info? ty).map (·.size) = some v.cells.size) (h1 : v.cells.all (·.oneCell') = true) :
    (storeVar ty ⟨b, o, none⟩ v).run P w = .ok () (w.setCells b o v.cells.toList) := by
  have := run_storeCells_cells (P := P) b o v.cells.toList 0 w (fun j hj => by simpa using (ht j (by simpa using hj)).1) (fun j hj => by simpa using (ht j (by simpa using hj)).2)
    (fun u hu => (Array.all_eq_true_iff_forall_mem.1 h1) u (by simpa using hu))
  cases hq : P.info? ty with
  | none => simp [hq] at hi
  | some i =>
    have hs : v.cells.size = i.size := by simp [hq] at hi; omega
    simp only [Nat.add_zero] at this
    simp [storeVar, sizeOf, typeInfo, hq, hs, this]
theorem evLoad_sound {ty : TypeId} {x : Operand} {l off : Nat} (ho : o.op = .load ty x) (hx : ρ x = .p l off) (h : evLoad P m A r ty l off = some (sv, m', A', r', k)) (hk : ∀ β w, okk (k β w)) (hl : β.length = m.length) (K : Kv w0 F β m A w) : After P o (fun x => (ρ x).den β) F β w0 sv m' A' w := by
  unfold evLoad at h
  split at h
  · next cs t e =>
    have hb := K.at e
    cases c : rowT P ty with
    | true =>
      rw [c] at h
      injection h with h
      obtain ⟨rfl, rfl, rfl, rfl, rfl⟩ := h
      have q := hk β w
      simp only [okk_cons] at q
      obtain ⟨q1, q2, -⟩ := q
      injection q1 with q1
      injection q2 with q2
      have q2 := of_decide_eq_true q2
      have hp : (part cs off (sizeT P ty)).toList = (cs.toList.drop off).take (sizeT P ty) := by
        unfold part
        cases c2 : off == 0 && sizeT P ty == cs.size with
        | true =>
          rw [Bool.and_eq_true, beq_iff_eq, beq_iff_eq] at c2
          rw [c2.1, c2.2]
          show cs.toList = _
          rw [List.drop_zero, List.take_of_length_le (by simp)]
        | false => simp [Array.toList_extract, List.extract_eq_take_drop]
      have hlen : (part cs off (sizeT P ty)).toList.length = sizeT P ty := by rw [hp, List.length_take, List.length_drop]; simp; omega
      have hr : w.rangeAt (β.getD l 0) off (part cs off (sizeT P ty)).toList := fun i v hv => by
        have hi := (List.getElem?_eq_some_iff.1 hv).1
        rw [hp, List.getElem?_take_of_lt (by omega), List.getElem?_drop] at hv
        rw [hb.cell]
        simpa using hv
      unfold rowT at c
      split at c
      · next d hd =>
        refine after_val (sv := .v _) trivial hl K ?_
        have hx' : (fun x => (ρ x).den β) x = .pointer (some ⟨β.getD l 0, off, none⟩) := by show (ρ x).den β = _; rw [hx]; rfl
        unfold execOp
        have e2 := run_loadVar_mid w (β.getD l 0) off ty _ d hr hd c (by rw [hlen]; exact q1)
        simp only [ho, hx', Instr.loadAt, Instr.sureAddr, Sem.run_bind, Sem.run_pure, Result.andThen_ok, e2, Array.toArray_toList]
        rfl
      · cases c
    | false =>
      rw [c] at h
      injection h with h
      obtain ⟨rfl, rfl, rfl, rfl, rfl⟩ := h
      have q := hk β w
      simp only [okk_cons] at q
      obtain ⟨q1, q2, -⟩ := q
      injection q1 with q1
      injection q2 with q2
      refine after_val (sv := .v _) trivial hl K ?_
      have hx' : (fun x => (ρ x).den β) x = .pointer (some ⟨β.getD l 0, off, none⟩) := by show (ρ x).den β = _; rw [hx]; rfl
      unfold execOp
      have e2 := run_loadAt_cell (P := P) (ty := ty) q1 (by rw [hb.cell]; exact q2)
      simp only [ho, hx', Sem.run_bind, Sem.run_pure, Result.andThen_ok, e2]
      rfl
  · cases h
theorem evStore_sound {ty : TypeId} {x y : Operand} {l off : Nat} {u : Value} (ho : o.op = .store ty x y) (hx : ρ x = .p l off) (hy : ρ y = .v u) (h : evStore P m A r ty l off u = some (sv, m', A', r', k)) (hk : ∀ β w, okk (k β w)) (hl : β.length = m.length) (K : Kv w0 F β m A w) : After P o (fun x => (ρ x).den β) F β w0 sv m' A' w := by
  unfold evStore at h
  split at h
  · next cs t e =>
    have hm := (List.getElem?_eq_some_iff.1 e).1
    injection h with h
    obtain ⟨rfl, rfl, rfl, rfl, rfl⟩ := h
    have q := hk β w
    simp only [okk_cons] at q
    obtain ⟨q1, q2, q3, -⟩ := q
    injection q1 with q1
    injection q2 with q2
    injection q3 with q3
    have q2 := of_decide_eq_true q2
    have hb := K.at e
    have hx' : (fun x => (ρ x).den β) x = .pointer (some ⟨β.getD l 0, off, none⟩) := by show (ρ x).den β = _; rw [hx]; rfl
    have hy' : (fun x => (ρ x).den β) y = u := by show (ρ y).den β = _; rw [hy]; rfl
    have hs : (Instr.storeAt ty (.pointer (some ⟨β.getD l 0, off, none⟩)) u).run P w = .ok () (w.setCells (β.getD l 0) off u.cells.toList) := by
      have e2 := run_storeVar_any (P := P) w (β.getD l 0) off ty u (hb.thereN off _ q2) q1 q3
      simp only [Instr.storeAt, Instr.sureAddr, Sem.run_bind, Sem.run_pure, Result.andThen_ok, e2]
    refine ⟨trivial, stepW_store ho hx' hy' hs ⟨[], by simpa using hl, rfl, ?_⟩⟩
    rw [List.append_nil]
    exact K.mid e off _
  · cases h
theorem evNew_at (u : Value) (ty : TypeId) {ρ : Operand → Value} (hl : β.length = m.length) (K : Kv w0 F β m A w) (h : (execOp ρ o).run P w = .ok (.value (.pointer (some ⟨w.heap.size, 0, none⟩))) (w.alloc (.cells u.cells ty))) : After P o ρ F β w0 (.p m.length 0) (m ++ [(u.cells, ty)]) A w := by
  refine ⟨by show m.length < _; simp, stepW_val h ⟨[w.heap.size], by simp [hl], ?_, ?_⟩⟩
  · show Value.pointer _ = Value.pointer _
    rw [List.getD_eq_getElem?_getD, ← hl, List.getElem?_concat_length]
    rfl
  · exact K.alloc hl u.cells ty
theorem evOp_sound (h : evOp P o ρ m A r = some (sv, m', A', r', k)) (hk : ∀ β w, okk (k β w)) (hρ : ∀ x, (ρ x).lt m.length) (hl : β.length = m.length) (K : Kv w0 F β m A w) : After P o (fun x => (ρ x).den β) F β w0 sv m' A' w := by
  unfold evOp at h
  cases c : asks o ρ with
  | true => rw [c] at h; exact evG_sound h hk hl K
  | false =>
  rw [c] at h
  simp only [cond_false] at h
  split at h
  · next ty x ho =>
    split at h
    · next l off hx => exact evLoad_sound ho hx h hk hl K
    · cases h
  · next ty x y ho =>
    split at h
    · next l off hx =>
      split at h
      · next u hy => exact evStore_sound ho hx hy h hk hl K
      · cases h
    · cases h
  · next ty x ho =>
    split at h
    · next u hx =>
      unfold evNew at h
      injection h with h
      obtain ⟨rfl, rfl, rfl, rfl, rfl⟩ := h
      refine evNew_at u ty hl K ?_
      have hx' : (fun x => (ρ x).den β) x = u := by show (ρ x).den β = _; rw [hx]; rfl
      unfold execOp
      simp only [ho, hx', Instr.box, Sem.run_bind, newVar, Sem.run_pure]
      rfl
    · cases h
  · next ty ho =>
    unfold evNew at h
    injection h with h
    obtain ⟨rfl, rfl, rfl, rfl, rfl⟩ := h
    have q := hk β w
    simp only [okk_cons] at q
    obtain ⟨q1, -⟩ := q
    injection q1 with q1
    refine evNew_at _ ty hl K ?_
    unfold execOp
    simp only [ho, Instr.alloc, Sem.run_bind, q1, Result.andThen_ok, newVar, Sem.run_pure]
    rfl
  · unfold evSl at h
    injection h with h
    obtain ⟨rfl, rfl, rfl, rfl, rfl⟩ := h
    have q := hk β w
    simp only [okk_cons] at q
    obtain ⟨q1, -⟩ := q
    injection q1 with q1
    refine ⟨by show m.length < _; simp, stepW_val q1 ⟨[w.heap.size], by simp [hl], ?_, K.alloc hl _ _⟩⟩
    show Value.slice _ _ _ = Value.slice _ _ _
    rw [List.getD_eq_getElem?_getD, ← hl, List.getElem?_concat_length]
    rfl
  · exact evPure_sound h hk hρ hl K
/-- Only what is looked at has to be known. -/
theorem step_known {ρ0 : Operand → Value} (hkn : knows o ρ = true) (h : ∀ x, (ρ x).known = true → ρ0 x = (ρ x).den β) {K : Value → World → Prop} (hs : stepW P o (fun x => (ρ x).den β) K w) : stepW P o ρ0 K w := by
  unfold knows at hkn
  rw [Bool.and_eq_true, List.all_eq_true, Bool.not_eq_true'] at hkn
  have e : execOp ρ0 o = execOp (fun x => (ρ x).den β) o := exec_congr (fun cs b e => by rw [e] at hkn; cases hkn.2) fun x hx => h x (hkn.1 x (by simpa using hx))
  unfold stepW at hs ⊢
  rw [e]
  exact hs
end
end Go.Proofs.YtccbdmccfbjmeaaDoor.Ev
end
