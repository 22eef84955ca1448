import Derived.Test.YtelohoomlgjjmaaDoorG10
import Derived.Test.YtelohoomlgjjmaaDoorG9
import Derived.Deep.MidRow
import Derived.Test.YtelohoomlgjjmaaDoorG5
import Derived.Test.YtelohoomlgjjmaaDoorG6
import Derived.Deep.DeepCutAuto
import Derived.IntWalk
import Derived.WalkLawsBesides
import Derived.WalkSpells
import Derived.Shelf.Abstract
import Derived.Laws.StructEq
import Derived.ChangeKeysEq
set_option linter.unusedSimpArgs false
set_option linter.unusedVariables false
namespace Go.Proofs.YtelohoomlgjjmaaDoor
section
/- A region as a whole, in one law: values as a list, the last frame by puts. -/
open Go.RowKit

/-- What operands read as. -/
def seen (ρ : Operand → Value) : List (Nat × Value) → Prop | [] => True | (t, v) :: l => ρ (.tmp t) = v ∧ seen ρ l
def vsOf (l : List Value) (i : Nat) : Value := l.toArray.getD i undef
def putsZ : List Oper → List Value → Array Value → Array Value
  | ⟨some d, _, _, _, _, _⟩ :: l, v :: vs, t => putsZ l vs (t.setIfInBounds d v)
  | ⟨none, _, _, _, _, _⟩ :: l, _ :: vs, t => putsZ l vs t
  | _, _, t => t
section
variable {P : Program} {ops : Array Oper} {a : Act} {L : Nat → Bool} {i : Nat} {o : Oper} {w : World} {Q : Exit → Act → World → Prop} {σ : Type}
theorem getD_other {A B : Array Value} {i j : Nat} (h : A.setIfInBounds i undef = B.setIfInBounds i undef) (hj : j ≠ i) : A.getD j undef = B.getD j undef := by
  have q := congrArg (fun z => z[j]?) h
  simp only [Array.getElem?_setIfInBounds_ne (Ne.symm hj)] at q
  rw [Array.getD_eq_getD_getElem?, Array.getD_eq_getD_getElem?, q]
theorem vs_other {A B : List Value} (h : A.set i undef = B.set i undef) (hL : L i = false) : ∀ j, L j = true → vsOf A j = vsOf B j := fun j hj =>
  getD_other (i := i) (by simpa using h) fun e => by rw [e, hL] at hj; cases hj
theorem stepW_see {ρ : Operand → Value} {K : Value → World → Prop} (l : List (Nat × Value)) (hl : l.map (fun p => ρ (.tmp p.1)) = l.map (fun p => p.2)) (hc : ∀ v, ρ (.const v) = v) (hf : ∀ f, ρ (.func f) = .func (.func f) #[] #[])
    (h : ∀ ρ' : Operand → Value, (∀ v, ρ' (.const v) = v) → (∀ f, ρ' (.func f) = .func (.func f) #[] #[]) → seen ρ' l → stepW P o ρ' K w) : stepW P o ρ K w := by
  refine h ρ hc hf ?_
  clear h
  induction l with
  | nil => trivial
  | cons a l ih =>
    simp only [List.map_cons, List.cons.injEq] at hl
    exact ⟨hl.1, ih hl.2⟩
theorem vs_two {A B : List Value} {k : Nat} (h : (A.set i undef).set k undef = (B.set i undef).set k undef) (hL : L i = false) (hk : L k = false) : ∀ j, L j = true → vsOf A j = vsOf B j := fun j hj => by
  have q := vs_other (A := A.set i undef) (B := B.set i undef) (i := k) h hk j hj
  have hne : j ≠ i := fun e => by rw [e, hL] at hj; cases hj
  have e : ∀ X : List Value, vsOf (X.set i undef) j = vsOf X j := fun X => by
    unfold vsOf
    rw [Array.getD_eq_getD_getElem?, Array.getD_eq_getD_getElem?]
    simp [List.getElem?_set_ne (Ne.symm hne)]
  rw [e, e] at q
  exact q
theorem stepW_app {ρ : Operand → Value} {K : Value → World → Prop} {w' : World} (x y : Operand) (t : TypeId) (ho : o.op = .call { callee := .builtin .append, args := #[x, y], argTypes := #[t, t] }) (v u r : Value) (hx : ρ x = v) (hy : ρ y = u) (hrun : (Builtin.append_ #[t, t] o.type #[v, u]).run P w = .ok r w') (hK : K r w') : stepW P o ρ K w := by
  unfold stepW execOp
  simp only [ho, resolve, invoke, builtin, Sem.run_bind, Sem.run_pure, Result.andThen_ok, List.map_toArray, List.map_cons, List.map_nil, hx, hy, hrun]
  exact hK
theorem putsZ_some {d : Nat} {op ty pos aft g l v vs t} : putsZ (⟨some d, op, ty, pos, aft, g⟩ :: l) (v :: vs) t = putsZ l vs (t.setIfInBounds d v) := rfl
theorem putsZ_none {op ty pos aft g l v vs t} : putsZ (⟨none, op, ty, pos, aft, g⟩ :: l) (v :: vs) t = putsZ l vs t := rfl
theorem putsZ_nil {t vs} : putsZ [] vs t = t := by cases vs <;> rfl
theorem putsZ_size : ∀ (os : List Oper) (vs : List Value) (t : Array Value), (putsZ os vs t).size = t.size
  | [], vs, t => by rw [putsZ_nil]
  | _ :: _, [], t => by unfold putsZ; simp
  | ⟨some d, _, _, _, _, _⟩ :: l, v :: vs, t => by rw [putsZ_some, putsZ_size l vs]; simp
  | ⟨none, _, _, _, _, _⟩ :: l, v :: vs, t => by rw [putsZ_none, putsZ_size l vs]
/-- What stands in a slot behind them. -/
theorem putsZ_at : ∀ (os : List Oper) (vs : List Value) (t : Array Value) (k : Nat), vs.length = os.length → (∀ (i j : Nat) (o o' : Oper) (d : Nat), os[i]? = some o → os[j]? = some o' → o.dst = some d → o'.dst = some d → i = j) → k < t.size →
    (putsZ os vs t)[k]? = match (List.range os.length).find? (fun i => (os[i]?.bind (·.dst)) == some k) with | some i => vs[i]? | none => t[k]?
  | [], [], t, k, h, hu, hk => by rw [putsZ_nil]; rfl
  | o :: os, v :: vs, t, k, h, hu, hk => by
    have hu' : ∀ (i j : Nat) (o o' : Oper) (d : Nat), os[i]? = some o → os[j]? = some o' → o.dst = some d → o'.dst = some d → i = j := fun i j o1 o2 d h1 h2 h3 h4 => by
      have := hu (i + 1) (j + 1) o1 o2 d (by simpa using h1) (by simpa using h2) h3 h4
      omega
    have h' : vs.length = os.length := by simpa using h
    have er : (List.range (o :: os).length).find? (fun i => ((o :: os)[i]?.bind (·.dst)) == some k) = if o.dst == some k then some 0 else ((List.range os.length).find? (fun i => (os[i]?.bind (·.dst)) == some k)).map (· + 1) := by
      rw [List.length_cons, List.range_succ_eq_map, List.find?_cons]
      have e0 : ((o :: os)[0]?.bind (·.dst) == some k) = (o.dst == some k) := rfl
      rw [e0]
      cases c : o.dst == some k with
      | true => simp
      | false =>
        simp only [Bool.false_eq_true, if_false]
        rw [List.find?_map]
        rfl
    rw [er]
    obtain ⟨dst, op, ty, pos, aft, g⟩ := o
    cases dst with
    | none =>
      rw [putsZ_none, putsZ_at os vs t k h' hu' hk]
      rw [if_neg (by simp)]
      cases (List.range os.length).find? (fun i => (os[i]?.bind (·.dst)) == some k) <;> simp
    | some d =>
      rw [putsZ_some, putsZ_at os vs _ k h' hu' (by simpa using hk)]
      by_cases c : d = k
      · subst c
        rw [if_pos (by simp)]
        cases q : (List.range os.length).find? (fun i => (os[i]?.bind (·.dst)) == some d) with
        | none => simp [hk]
        | some i =>
          exfalso
          have q2 := List.find?_some q
          rw [beq_iff_eq] at q2
          cases q3 : os[i]? with
          | none => rw [q3] at q2; cases q2
          | some o2 =>
            rw [q3] at q2
            have := hu 0 (i + 1) _ o2 d rfl (by simpa using q3) rfl q2
            omega
      · rw [if_neg (by simpa using c), Array.getElem?_setIfInBounds_ne c]
        cases (List.range os.length).find? (fun i => (os[i]?.bind (·.dst)) == some k) <;> simp
theorem rgF_puts {vals : List Value} (hn : rgOnce ops a.tmps.size = true) (hlen : vals.length = ops.size) : rgF ops (vsOf vals) a (fun _ => true) = { a with tmps := putsZ ops.toList vals a.tmps } := by
  unfold rgF
  have e : rgT ops (vsOf vals) a.tmps (fun _ => true) = putsZ ops.toList vals a.tmps := by
    refine Array.ext_getElem? fun k => ?_
    rw [rgT_at]
    by_cases hk : k < a.tmps.size
    · have hu : ∀ (i j : Nat) (o o' : Oper) (d : Nat), ops.toList[i]? = some o → ops.toList[j]? = some o' → o.dst = some d → o'.dst = some d → i = j := fun i j o o' d h1 h2 h3 h4 => by
        have q1 := (rgOnce_at hn (i := i) (by rw [← Array.getElem?_toList]; exact h1) h3).1
        have q2 := (rgOnce_at hn (i := j) (by rw [← Array.getElem?_toList]; exact h2) h4).1
        rw [q1] at q2
        exact Option.some.inj q2
      rw [putsZ_at _ _ _ k (by simpa using hlen) hu hk, Array.getElem?_eq_getElem hk]
      have ew : (List.range ops.toList.length).find? (fun i => (ops.toList[i]?.bind (·.dst)) == some k) = wrOf ops k := by
        unfold wrOf
        simp
      rw [ew]
      cases c : wrOf ops k with
      | none => rfl
      | some i =>
        obtain ⟨o, h1, h2⟩ := wr_some c
        have hi : i < vals.length := by rw [hlen]; exact (Array.getElem?_eq_some_iff.1 h1).1
        show some (vsOf vals i) = vals[i]?
        unfold vsOf
        rw [List.getElem?_eq_getElem hi, Array.getD_eq_getD_getElem?]
        simp [hi]
    · rw [Array.getElem?_eq_none (by omega), Array.getElem?_eq_none (by rw [putsZ_size]; omega)]
      rfl
  rw [e]
def rgOk (P : Program) (ops : Array Oper) (n : Nat) : Bool := P.follows .mixedOrders && dag ops && rgOnce ops n && depsOk ops && guardsOk ops && noSel ops
def rgOkL (ops : Array Oper) (n : Nat) : Bool := textOk ops && rgOnce ops n && depsOk ops && guardsOk ops && noSel ops
/-- A region that draws its order. -/
theorem rg {id : Nat} (vals : σ → List Value) (C : σ → (Nat → Bool) → World → Prop) (s0 : σ) (ps qs : List Nat) (ls : List (Nat × (σ → Addr))) (rs : List Nat) (hok : rgOk P ops a.tmps.size = true) (hlen : ∀ s, (vals s).length = ops.size)
    (hcov : (List.range ops.size).all (fun i => ps.contains i || qs.contains i || (ls.map Prod.fst).contains i || rs.contains i) = true)
    (hpw : ∀ s, ps.map (wantI ops (vsOf (vals s))) = ps.map fun _ => true) (hp : ∀ s w, ps.map (outV P ops (vsOf (vals s)) a w) = ps.map (ansV (vsOf (vals s)) w))
    (hqw : ∀ s, qs.map (wantI ops (vsOf (vals s))) = qs.map fun _ => false) (hq : ∀ s, qs.map (vsOf (vals s)) = qs.map fun _ => undef)
    (hlw : ∀ s, ls.map (fun e => wantI ops (vsOf (vals s)) e.1) = ls.map fun _ => true) (hl : ∀ s, ls.map (fun e => ldAt P ops (vsOf (vals s)) a e.1) = ls.map fun e => (true, .pointer (some (e.2 s))))
    (h0 : C s0 (fun _ => false) w.drew)
    (hc : ∀ s L w, C s L w → cellsW ops L w s (vsOf (vals s)) ls)
    (hC : ∀ i, i ∈ ps ∨ i ∈ qs ∨ i ∈ ls.map Prod.fst → ∀ s L w, C s L w → C s (upd L i) w)
    (hr : ∀ i, i ∈ rs → ∀ s L w, C s L w → L i = false → (∀ j ∈ afters ops i, L j = true) → (∀ i, L i = true → ∀ j ∈ afters ops i, L j = true) → wantI ops (vsOf (vals s)) i = true ∧ ∀ o, ops[i]? = some o → stepW P o (view ops (vsOf (vals s)) a i) (fun u w' => ∃ s', (∀ j, L j = true → vsOf (vals s) j = vsOf (vals s') j) ∧ u = vsOf (vals s') i ∧ C s' (upd L i) w') w)
    (hend : ∀ s L w, C s L w → (∀ i, i < ops.size → L i = true) → Q .normal { a with tmps := putsZ ops.toList (vals s) a.tmps } w) : (Code.region id ops true).wp P Q a w := by
  unfold rgOk at hok
  simp only [Bool.and_eq_true] at hok
  obtain ⟨⟨⟨⟨⟨k1, k2⟩, k3⟩, k4⟩, k5⟩, k6⟩ := hok
  exact region_holes (fun s => vsOf (vals s)) C s0 k1 k2 k3 k4 k5 k6 h0 (steps_of3 _ C ps qs ls rs hcov hpw hp hqw hq hlw hl hc hC hr) fun s L w h1 h2 => by rw [rgF_puts k3 (hlen s)]; exact hend s L w h1 h2
/-- A region in the text's order. -/
theorem rgl {id : Nat} (vals : σ → List Value) (C : σ → (Nat → Bool) → World → Prop) (s0 : σ) (ps qs : List Nat) (ls : List (Nat × (σ → Addr))) (rs : List Nat) (hok : rgOkL ops a.tmps.size = true) (hlen : ∀ s, (vals s).length = ops.size)
    (hcov : (List.range ops.size).all (fun i => ps.contains i || qs.contains i || (ls.map Prod.fst).contains i || rs.contains i) = true)
    (hpw : ∀ s, ps.map (wantI ops (vsOf (vals s))) = ps.map fun _ => true) (hp : ∀ s w, ps.map (outV P ops (vsOf (vals s)) a w) = ps.map (ansV (vsOf (vals s)) w))
    (hqw : ∀ s, qs.map (wantI ops (vsOf (vals s))) = qs.map fun _ => false) (hq : ∀ s, qs.map (vsOf (vals s)) = qs.map fun _ => undef)
    (hlw : ∀ s, ls.map (fun e => wantI ops (vsOf (vals s)) e.1) = ls.map fun _ => true) (hl : ∀ s, ls.map (fun e => ldAt P ops (vsOf (vals s)) a e.1) = ls.map fun e => (true, .pointer (some (e.2 s))))
    (h0 : C s0 (fun _ => false) w)
    (hc : ∀ s L w, C s L w → cellsW ops L w s (vsOf (vals s)) ls)
    (hC : ∀ i, i ∈ ps ∨ i ∈ qs ∨ i ∈ ls.map Prod.fst → ∀ s L w, C s L w → C s (upd L i) w)
    (hr : ∀ i, i ∈ rs → ∀ s L w, C s L w → L i = false → (∀ j ∈ afters ops i, L j = true) → (∀ i, L i = true → ∀ j ∈ afters ops i, L j = true) → wantI ops (vsOf (vals s)) i = true ∧ ∀ o, ops[i]? = some o → stepW P o (view ops (vsOf (vals s)) a i) (fun u w' => ∃ s', (∀ j, L j = true → vsOf (vals s) j = vsOf (vals s') j) ∧ u = vsOf (vals s') i ∧ C s' (upd L i) w') w)
    (hend : ∀ s L w, C s L w → (∀ i, i < ops.size → L i = true) → Q .normal { a with tmps := putsZ ops.toList (vals s) a.tmps } w) : (Code.region id ops false).wp P Q a w := by
  unfold rgOkL at hok
  simp only [Bool.and_eq_true] at hok
  obtain ⟨⟨⟨⟨k2, k3⟩, k4⟩, k5⟩, k6⟩ := hok
  exact region_holes_lit (fun s => vsOf (vals s)) C s0 k2 k3 k4 k5 k6 h0 (steps_of3 _ C ps qs ls rs hcov hpw hp hqw hq hlw hl hc hC hr) fun s L w h1 h2 => by rw [rgF_puts k3 (hlen s)]; exact hend s L w h1 h2
end
end
section
/- A region as a whole: short forms. -/
open Go.RowKit
section
variable {P : Program} {ops : Array Oper} {a : Act} {L : Nat → Bool} {i : Nat} {o : Oper} {w w' : World} {Q : Exit → Act → World → Prop} {σ : Type}
theorem stepW_seeG {ρ : Operand → Value} {K : Value → World → Prop} (l : List (Nat × Value)) (hl : l.map (fun p => ρ (.tmp p.1)) = l.map (fun p => p.2)) (hc : ∀ v, ρ (.const v) = v) (hf : ∀ f, ρ (.func f) = .func (.func f) #[] #[]) (hg : ∀ g, ρ (.global g) = .pointer (some ⟨g, 0, none⟩))
    (h : ∀ ρ' : Operand → Value, (∀ v, ρ' (.const v) = v) → (∀ f, ρ' (.func f) = .func (.func f) #[] #[]) → (∀ g, ρ' (.global g) = .pointer (some ⟨g, 0, none⟩)) → seen ρ' l → stepW P o ρ' K w) : stepW P o ρ K w := by
  refine h ρ hc hf hg ?_
  clear h
  induction l with
  | nil => trivial
  | cons a l ih =>
    simp only [List.map_cons, List.cons.injEq] at hl
    exact ⟨hl.1, ih hl.2⟩
/-- What the rest of the operations must do, one by one. -/
def RsAll (P : Program) (ops : Array Oper) (vals : σ → List Value) (C : σ → (Nat → Bool) → World → Prop) : List (Nat × (σ → List (Nat × Value))) → Prop
  | [] => True
  | (i, us) :: l => (∀ s L w, C s L w → L i = false → (∀ j ∈ afters ops i, L j = true) → (∀ i, L i = true → ∀ j ∈ afters ops i, L j = true) → ∀ ρ : Operand → Value, (∀ v, ρ (.const v) = v) → (∀ f, ρ (.func f) = .func (.func f) #[] #[]) → (∀ g, ρ (.global g) = .pointer (some ⟨g, 0, none⟩)) → seen ρ (us s) → ∀ o, ops[i]? = some o →
      stepW P o ρ (fun u w' => ∃ s', (∀ j, L j = true → vsOf (vals s) j = vsOf (vals s') j) ∧ u = vsOf (vals s') i ∧ C s' (upd L i) w') w) ∧ RsAll P ops vals C l
theorem RsAll.at {vals : σ → List Value} {C : σ → (Nat → Bool) → World → Prop} : ∀ {rs : List (Nat × (σ → List (Nat × Value)))} (h : RsAll P ops vals C rs) {i us}, (i, us) ∈ rs → ∀ s L w, C s L w → L i = false → (∀ j ∈ afters ops i, L j = true) → (∀ i, L i = true → ∀ j ∈ afters ops i, L j = true) → ∀ ρ : Operand → Value, (∀ v, ρ (.const v) = v) → (∀ f, ρ (.func f) = .func (.func f) #[] #[]) → (∀ g, ρ (.global g) = .pointer (some ⟨g, 0, none⟩)) → seen ρ (us s) → ∀ o, ops[i]? = some o →
      stepW P o ρ (fun u w' => ∃ s', (∀ j, L j = true → vsOf (vals s) j = vsOf (vals s') j) ∧ u = vsOf (vals s') i ∧ C s' (upd L i) w') w
  | (j, u2) :: l, h, i, us, hm => by
    rcases List.mem_cons.1 hm with e | hm
    · cases e; exact h.1
    · exact RsAll.at h.2 hm
def psOf (n : Nat) (qs ls rs : List Nat) : List Nat := (List.range n).filter fun i => !(qs.contains i || ls.contains i || rs.contains i)
theorem rk {id : Nat} {dr : Bool} (vals : σ → List Value) (C : σ → (Nat → Bool) → World → Prop) (s0 : σ) (qs : List Nat) (ls : List (Nat × (σ → Addr))) (rs : List (Nat × (σ → List (Nat × Value)))) (D : List Nat)
    (h0 : C s0 (fun _ => false) (bif dr then w.drew else w))
    (hc : ∀ s L w, C s L w → cellsW ops L w s (vsOf (vals s)) ls)
    (hD : ∀ s L L' w, (∀ k ∈ D, L k = L' k) → C s L w → C s L' w)
    (hr : RsAll P ops vals C rs)
    (hend : ∀ s L w, C s L w → (∀ i, i < ops.size → L i = true) → Q .normal { a with tmps := putsZ ops.toList (vals s) a.tmps } w)
    (hok : (bif dr then rgOk P ops a.tmps.size else rgOkL ops a.tmps.size) = true := by kernel_rfl)
    (hlen : ∀ s, (vals s).length = ops.size := by intros; rfl)
    (hdis : (D.all fun k => (rs.map Prod.fst).contains k && !(qs ++ ls.map Prod.fst).contains k) = true := by kernel_rfl)
    (hpw : ∀ s, (psOf ops.size qs (ls.map Prod.fst) (rs.map Prod.fst)).map (wantI ops (vsOf (vals s))) = (psOf ops.size qs (ls.map Prod.fst) (rs.map Prod.fst)).map fun _ => true := by intros; kernel_rfl)
    (hp : ∀ s w, (psOf ops.size qs (ls.map Prod.fst) (rs.map Prod.fst)).map (outV P ops (vsOf (vals s)) a w) = (psOf ops.size qs (ls.map Prod.fst) (rs.map Prod.fst)).map (ansV (vsOf (vals s)) w) := by intros; kernel_rfl)
    (hqw : ∀ s, qs.map (wantI ops (vsOf (vals s))) = qs.map fun _ => false := by intros; kernel_rfl) (hq : ∀ s, qs.map (vsOf (vals s)) = qs.map fun _ => undef := by intros; kernel_rfl)
    (hlw : ∀ s, ls.map (fun e => wantI ops (vsOf (vals s)) e.1) = ls.map fun _ => true := by intros; kernel_rfl) (hl : ∀ s, ls.map (fun e => ldAt P ops (vsOf (vals s)) a e.1) = ls.map fun e => (true, .pointer (some (e.2 s))) := by intros; kernel_rfl)
    (hu : ∀ s, rs.map (fun e => (wantI ops (vsOf (vals s)) e.1, (e.2 s).map fun p => view ops (vsOf (vals s)) a e.1 (.tmp p.1))) = rs.map fun e => (true, (e.2 s).map fun p => p.2) := by intros; kernel_rfl) : (Code.region id ops dr).wp P Q a w := by
  have hcov : (List.range ops.size).all (fun i => (psOf ops.size qs (ls.map Prod.fst) (rs.map Prod.fst)).contains i || qs.contains i || (ls.map Prod.fst).contains i || (rs.map Prod.fst).contains i) = true := by
    rw [List.all_eq_true]
    intro i hi
    unfold psOf
    cases c : (qs.contains i || (ls.map Prod.fst).contains i || (rs.map Prod.fst).contains i) with
    | true =>
      simp only [Bool.or_eq_true] at c ⊢
      rcases c with (c | c) | c
      · exact .inl (.inl (.inr c))
      · exact .inl (.inr c)
      · exact .inr c
    | false =>
      simp only [Bool.or_eq_true]
      refine .inl (.inl (.inl ?_))
      rw [List.contains_iff_mem, List.mem_filter]
      exact ⟨hi, by rw [c]; rfl⟩
  rw [List.all_eq_true] at hdis
  have hC : ∀ i, i ∈ psOf ops.size qs (ls.map Prod.fst) (rs.map Prod.fst) ∨ i ∈ qs ∨ i ∈ ls.map Prod.fst → ∀ s L w, C s L w → C s (upd L i) w := by
    intro i hi s L w h
    refine hD s L (upd L i) w (fun k hk => ?_) h
    have q := hdis k hk
    rw [Bool.and_eq_true] at q
    have hne : ¬ k = i := by
      rintro rfl
      rcases hi with hi | hi
      · unfold psOf at hi
        rw [List.mem_filter] at hi
        have q2 := hi.2
        rw [q.1] at q2
        simp at q2
      · have q2 := q.2
        have hi : k ∈ qs ++ ls.map Prod.fst := List.mem_append.2 hi
        rw [← List.contains_iff_mem] at hi
        rw [hi] at q2
        cases q2
    unfold upd
    rw [if_neg hne]
  have hr2 : ∀ i, i ∈ rs.map Prod.fst → ∀ s L w, C s L w → L i = false → (∀ j ∈ afters ops i, L j = true) → (∀ i, L i = true → ∀ j ∈ afters ops i, L j = true) → wantI ops (vsOf (vals s)) i = true ∧ ∀ o, ops[i]? = some o → stepW P o (view ops (vsOf (vals s)) a i) (fun u w' => ∃ s', (∀ j, L j = true → vsOf (vals s) j = vsOf (vals s') j) ∧ u = vsOf (vals s') i ∧ C s' (upd L i) w') w := by
    intro i hi s L w h1 h2 h3 h4
    obtain ⟨⟨i, us⟩, he, rfl⟩ := List.mem_map.1 hi
    have q := rg_map_mem (hu s) he
    simp only [Prod.mk.injEq] at q
    exact ⟨q.1, fun o ho => stepW_seeG (us s) q.2 (fun _ => rfl) (fun _ => rfl) (fun _ => rfl) fun ρ a1 a2 a4 a3 => hr.at he s L w h1 h2 h3 h4 ρ a1 a2 a4 a3 o ho⟩
  cases dr with
  | true => exact rg vals C s0 _ qs ls (rs.map Prod.fst) hok hlen hcov hpw hp hqw hq hlw hl h0 hc hC hr2 hend
  | false => exact rgl vals C s0 _ qs ls (rs.map Prod.fst) hok hlen hcov hpw hp hqw hq hlw hl h0 hc hC hr2 hend
end
section
variable {P : Program} {o : Oper} {w w' : World} {σ : Type} {s : σ} {L : Nat → Bool} {i : Nat} {ρ : Operand → Value} {vals : σ → List Value} {C : σ → (Nat → Bool) → World → Prop}
theorem l_var (ty : TypeId) (x : Operand) (ho : o.op = .load ty x) (g : Nat) (hx : ρ x = .pointer (some ⟨g, 0, none⟩)) (t : TypeId) (cs : Array Value) (d : TypeDesc) (hg : Blk w g cs t)
    (hu : P.underlying ty = some d) (hd : (match d with | .struct _ | .array _ _ => true | _ => false) = true) (hi : (P.info? ty).map (·.size) = some cs.size) : (execOp ρ o).run P w = .ok (.value (.agg cs)) w := by
  unfold execOp
  simp only [ho, hx, Instr.loadAt, Instr.sureAddr, Sem.run_bind, Sem.run_pure, Result.andThen_ok, run_loadVar_row w g t ty cs (0, 0) d hg hu hd hi]
theorem l_partof (ty : TypeId) (x : Operand) (ho : o.op = .load ty x) (g j : Nat) (hx : ρ x = .pointer (some ⟨g, j, none⟩)) (t : TypeId) (cs : Array Value) (part : List Value) (d : TypeDesc) (hg : Blk w g cs t) (hp : ∀ i v, part[i]? = some v → cs[j + i]? = some v)
    (hu : P.underlying ty = some d) (hd : d.isRow = true) (hi : (P.info? ty).map (·.size) = some part.length) : (execOp ρ o).run P w = .ok (.value (.agg part.toArray)) w := by
  unfold execOp
  have hr : w.rangeAt g j part := fun i v hv => by rw [hg.cell]; exact hp i v hv
  simp only [ho, hx, Instr.loadAt, Instr.sureAddr, Sem.run_bind, Sem.run_pure, Result.andThen_ok, run_loadVar_mid w g j ty part d hr hu hd hi]
theorem l_range (ty : TypeId) (x : Operand) (ho : o.op = .load ty x) (g j : Nat) (hx : ρ x = .pointer (some ⟨g, j, none⟩)) (arr : Array Value) (d : TypeDesc) (hr : w.rangeAt g j arr.toList)
    (hu : P.underlying ty = some d) (hd : d.isRow = true) (hi : (P.info? ty).map (·.size) = some arr.size) : (execOp ρ o).run P w = .ok (.value (.agg arr)) w := by
  unfold execOp
  simp only [ho, hx, Instr.loadAt, Instr.sureAddr, Sem.run_bind, Sem.run_pure, Result.andThen_ok, run_loadVar_mid w g j ty arr.toList d hr hu hd (by simpa using hi), Array.toArray_toList]
theorem l_no (c x y : Operand) (v : Value) (ho : o.op = .pick c x y) (hc : ρ c = .bool false) (hy : ρ y = v) : (execOp ρ o).run P w = .ok (.value v) w := by
  unfold execOp
  simp only [ho, hc, hy]
  simp [asBool, Sem.run_pure, Result.andThen_ok]
theorem l_yes (c x y : Operand) (v : Value) (ho : o.op = .pick c x y) (hc : ρ c = .bool true) (hy : ρ x = v) : (execOp ρ o).run P w = .ok (.value v) w := by
  unfold execOp
  simp only [ho, hc, hy]
  simp [asBool, Sem.run_pure, Result.andThen_ok]
theorem l_build (t : TypeId) (parts : List (Nat × Operand)) (ho : o.op = .build t parts.toArray) (vals : List (Nat × Value)) (arr : Array Value)
    (hv : parts.map (fun x => (x.1, ρ x.2)) = vals) (hb : P.built t vals = some arr) : (execOp ρ o).run P w = .ok (.value (.agg arr)) w := by
  subst hv
  have e : (Array.map (fun x => (x.1, ρ x.2)) parts.toArray).toList = parts.map (fun x => (x.1, ρ x.2)) := by simp
  rw [← e] at hb
  unfold execOp
  simp only [ho, Sem.run_bind, run_build w t _ arr hb, Result.andThen_ok, Sem.run_pure]
/-- A value. -/
theorem sw {K : Value → World → Prop} (v : Value) (h : (execOp ρ o).run P w = .ok (.value v) w') (hK : K v w') : stepW P o ρ K w := stepW_val h hK
/-- A call. -/
theorem sc {K : Value → World → Prop} {B : World → Prop} (v : Value) (f : FuncId) (args : Array Value) (hcall : Calls P f args w fun e w2 => e = .returned v ∧ B w2) (h : (execOp ρ o).run P w = .ok (.enter f args) w) (hK : ∀ w2, B w2 → K v w2) : stepW P o ρ K w :=
  stepW_call h (hcall.mono fun _ w2 ⟨q1, hb⟩ => ⟨v, q1, hK w2 hb⟩)
/-- A cell is stored. -/
theorem ss {K : Value → World → Prop} (ty : TypeId) (x y : Operand) (ho : o.op = .store ty x y) (p : Addr) (v : Value) (hx : ρ x = .pointer (some p)) (hy : ρ y = v) (hs : (Instr.storeAt ty (.pointer (some p)) v).run P w = .ok () (w.setCell p v)) (hK : K undef (w.setCell p v)) : stepW P o ρ K w :=
  stepW_store ho hx hy hs hK
/-- A whole row is stored. -/
theorem sr {K : Value → World → Prop} (ty : TypeId) (x y : Operand) (ho : o.op = .store ty x y) (g : Nat) (cells : Array Value) (hx : ρ x = .pointer (some ⟨g, 0, none⟩)) (hy : ρ y = .agg cells) (t : TypeId) (old : Array Value) (hg : w.heap[g]? = some (.cells old t (0, 0))) (hi : (P.info? ty).map (·.size) = some cells.size)
    (hold : old.size = cells.size) (h1 : cells.all (·.oneCell') = true) (hK : K undef (w.setRow g cells)) : stepW P o ρ K w := by
  unfold stepW execOp
  simp only [ho, hx, hy, Instr.storeAt, Instr.sureAddr, Sem.run_bind, Sem.run_pure, Result.andThen_ok, run_storeVar_row w g t ty old cells hg hi hold h1]
  exact hK
/-- A part of a row is stored. -/
theorem sm {K : Value → World → Prop} (ty : TypeId) (x y : Operand) (ho : o.op = .store ty x y) (b j : Nat) (cells : Array Value) (hx : ρ x = .pointer (some ⟨b, j, none⟩)) (hy : ρ y = .agg cells) (ht : w.there b j cells.size) (hi : (P.info? ty).map (·.size) = some cells.size) (h1 : cells.all (·.oneCell') = true)
    (hK : K undef (w.setCells b j cells.toList)) : stepW P o ρ K w := by
  unfold stepW execOp
  simp only [ho, hx, hy, Instr.storeAt, Instr.sureAddr, Sem.run_bind, Sem.run_pure, Result.andThen_ok, run_storeVar_mid w b j ty cells ht hi h1]
  exact hK
end
end
section
/- Blocks of one's own beside things that are owned, whatever these are. -/
open Go.RowKit

/-- What may change is F. -/
structure Mv (F : Nat → Prop) (w w' : World) : Prop where
  os : w'.os = w.os
  tape : w'.tape = w.tape
  output : w'.output = w.output
  size : w.heap.size ≤ w'.heap.size
  block : ∀ k, k < w.heap.size → ¬ F k → w'.heap[k]? = w.heap[k]?
theorem Mv.refl (F : Nat → Prop) (w : World) : Mv F w w := ⟨rfl, rfl, rfl, Nat.le_refl _, fun _ _ _ => rfl⟩
theorem Mv.of_below {F : Nat → Prop} {w w' : World} (h : Below w.heap.size w w') : Mv F w w' := ⟨h.os, h.tape, h.output, h.size, fun k hk _ => h.block k hk⟩
theorem Mv.trans {F G : Nat → Prop} {a b c : World} (h : Mv F a b) (k : Mv G b c) (hG : ∀ x, x < a.heap.size → G x → F x) : Mv F a c :=
  ⟨k.os.trans h.os, k.tape.trans h.tape, k.output.trans h.output, Nat.le_trans h.size k.size, fun x hx hn => (k.block x (Nat.lt_of_lt_of_le hx h.size) (fun g => hn (hG x hx g))).trans (h.block x hx hn)⟩
theorem Mv.below {F : Nat → Prop} {w w' : World} (h : Mv F w w') (hF : ∀ k, F k → w.heap.size ≤ k) : Below w.heap.size w w' := ⟨h.os, h.tape, h.output, h.size, fun k hk => h.block k hk (fun f => by have := hF k f; omega)⟩
theorem Mv.setCell (w : World) (b o : Nat) (u : Value) : Mv (fun k => k = b) w (w.setCell ⟨b, o, none⟩ u) :=
  ⟨rfl, rfl, rfl, ((Below.refl 0 w).setCell (Nat.zero_le _) u (p := ⟨b, o, none⟩)).size, fun k hk hn => heap_setCell_other w ⟨b, o, none⟩ k u hn⟩
theorem Mv.grown {w w' : World} {r : Option Nat} (h : w.grownBy w' r) : Mv (fun k => r = some k) w w' := ⟨h.os, h.tape, h.output, h.size, fun k hk hn => h.block k hk (fun e => hn e.symm)⟩
theorem Mv.mono {F G : Nat → Prop} {w w' : World} (h : Mv F w w') (hG : ∀ k, F k → G k) : Mv G w w' := ⟨h.os, h.tape, h.output, h.size, fun k hk hn => h.block k hk (fun f => hn (hG k f))⟩
theorem Mv.setRow (w : World) (b : Nat) (cs : Array Value) : Mv (fun k => k = b) w (w.setRow b cs) := by
  have h := below_setRow (Below.refl 0 w) (Nat.zero_le b) cs
  exact ⟨h.os, h.tape, h.output, h.size, fun k hk hn => setRow_other w b k cs (fun e => hn e)⟩
theorem Mv.setCells (b : Nat) : ∀ (vs : List Value) (o : Nat) (w : World), Mv (fun k => k = b) w (w.setCells b o vs)
  | [], o, w => Mv.refl _ w
  | v :: vs, o, w => (Mv.setCell w b o v).trans (Mv.setCells b vs (o + 1) (w.setCell ⟨b, o, none⟩ v)) (fun _ _ h => h)
theorem Blk.fr {F : Nat → Prop} {w w' : World} {g : Nat} {cs : Array Value} {t : TypeId} (h : Blk w g cs t) (hf : Mv F w w') (hn : ¬ F g) : Blk w' g cs t := (hf.block g h.lt hn).trans h
theorem Own.fr {α : Type} {enc : α → List Value} {size base : Nat} {F : Nat → Prop} {w w' : World} {e : TypeId} {v : Value} {l : List α} (h : Own w base e size enc v l) (hf : Mv F w w') (hn : ∀ k, v.ownBlock = some k → ¬ F k) : Own w' base e size enc v l := by
  refine ⟨h.1, ?_⟩
  have hlt := h.lt
  rcases h.2 with hn2 | ⟨g, cap, cur, rfl, h2, h3, h4⟩
  · exact .inl hn2
  · exact .inr ⟨g, cap, cur, rfl, h2, (hf.block g (hlt g rfl).2 (hn g rfl)).trans h3, h4⟩
theorem Kb.left {w0 w : World} {l r : List (Nat × Array Value × TypeId)} (K : Kb w0 (l ++ r) w) : Kb w0 l w :=
  ⟨fun x hx => K.all x (List.mem_append_left _ hx), K.below, fun x hx => K.new x (List.mem_append_left _ hx), by have := K.nd; rw [List.map_append, List.nodup_append] at this; exact this.1⟩
/-- Something owned: what it says of a world, in which blocks. -/
structure Bd where
  p : World → Prop
  f : Nat → Prop
  lt : ∀ {W : World} {k : Nat}, p W → f k → k < W.heap.size
  mv : ∀ {G : Nat → Prop} {W W' : World}, p W → Mv G W W' → (∀ k, f k → ¬ G k) → p W'
def Bd.nil : Bd := ⟨fun _ => True, fun _ => False, fun _ h => h.elim, fun _ _ _ => trivial⟩
def Bd.and (A B : Bd) : Bd := ⟨fun W => A.p W ∧ B.p W, fun k => A.f k ∨ B.f k, fun h k => k.elim (A.lt h.1) (B.lt h.2), fun h m n => ⟨A.mv h.1 m (fun k q => n k (.inl q)), B.mv h.2 m (fun k q => n k (.inr q))⟩⟩
def bdO {α : Type} (B : Nat) (e : TypeId) (size : Nat) (enc : α → List Value) (v : Value) (l : List α) : Bd :=
  ⟨fun W => Own W B e size enc v l, fun k => v.ownBlock = some k, fun h q => (h.lt _ q).2, fun h m n => h.fr m (fun k q => n k q)⟩
structure Kx (w0 : World) (l : List (Nat × Array Value × TypeId)) (A : Bd) (w : World) : Prop where
  kb : Kb w0 l w
  a : A.p w
  ap : ∀ x ∈ l, ¬ A.f x.1
  nw : ∀ k, A.f k → w0.heap.size ≤ k
section
variable {w0 w w' w1 : World} {l l' : List (Nat × Array Value × TypeId)} {A A' : Bd} {b i : Nat} {cs : Array Value} {ty : TypeId}
theorem Kx.below (K : Kx w0 l A w) : Below w0.heap.size w0 w := K.kb.below
theorem Kx.start (K : Kb w0 l w) : Kx w0 l Bd.nil w := ⟨K, trivial, fun _ _ h => h, fun _ h => h.elim⟩
theorem Kx.next (K : Kx w0 l A w) (hb : Below w.heap.size w w') : Kx w0 l A w' := ⟨K.kb.next hb, A.mv K.a (Mv.of_below hb) (fun _ _ e => e), K.ap, K.nw⟩
theorem Kx.drew (K : Kx w0 l A w) : Kx w0 l A w.drew := K.next (Below.refl _ _).drew
theorem Kx.at (K : Kx w0 l A w) (e : l[i]? = some (b, cs, ty)) : Blk w b cs ty := K.kb.at e
theorem Kx.cell (K : Kx w0 l A w) (e : l[i]? = some (b, cs, ty)) {j : Nat} {v : Value} (hv : cs[j]? = some v) : w.cell? ⟨b, j, none⟩ = some v := K.kb.cell e hv
theorem Kx.left {r : List (Nat × Array Value × TypeId)} (K : Kx w0 (l ++ r) A w) : Kx w0 l A w := ⟨Kb.left K.kb, K.a, fun x hx => K.ap x (List.mem_append_left _ hx), K.nw⟩
theorem Kx.alloc (K : Kx w0 l A w) (cs : Array Value) (ty : TypeId) : Kx w0 (l ++ [(w.heap.size, cs, ty)]) A (w.alloc (.cells cs ty)) := by
  refine ⟨K.kb.alloc cs ty, A.mv K.a (Mv.of_below ((Below.refl _ _).alloc (Nat.le_refl _) _)) (fun _ _ e => e), fun x hx hf => ?_, K.nw⟩
  rcases List.mem_append.1 hx with hx | hx
  · exact K.ap x hx hf
  · rw [List.mem_singleton.1 hx] at hf
    exact Nat.lt_irrefl _ (A.lt K.a hf)
theorem Kx.put (K : Kx w0 l A w) (e : l[i]? = some (b, cs, ty)) (cs' : Array Value) (hk : Kb w0 (l.set i (b, cs', ty)) w') (hm : Mv (fun k => k = b) w w') : Kx w0 (l.set i (b, cs', ty)) A w' := by
  have hb : ¬ A.f b := K.ap _ (List.mem_of_getElem? e)
  refine ⟨hk, A.mv K.a hm (fun k hf e2 => hb (e2 ▸ hf)), fun x hx hf => ?_, K.nw⟩
  rcases List.mem_or_eq_of_mem_set hx with q | q
  · exact K.ap x q hf
  · rw [q] at hf; exact hb hf
theorem Kx.row (K : Kx w0 l A w) (e : l[i]? = some (b, cs, ty)) (cs' : Array Value) : Kx w0 (l.set i (b, cs', ty)) A (w.setRow b cs') := K.put e cs' (K.kb.row e cs') (Mv.setRow w b cs')
theorem Kx.set (K : Kx w0 l A w) (e : l[i]? = some (b, cs, ty)) (j : Nat) (v : Value) : Kx w0 (l.set i (b, cs.setIfInBounds j v, ty)) A (w.setCell ⟨b, j, none⟩ v) := K.put e _ (K.kb.set e j v) (Mv.setCell w b j v)
theorem Kx.mid (K : Kx w0 l A w) (e : l[i]? = some (b, cs, ty)) (o : Nat) (vs : List Value) : Kx w0 (l.set i (b, setL cs o vs, ty)) A (w.setCells b o vs) := K.put e _ (K.kb.mid e o vs) (Mv.setCells b vs o w)
theorem kx_cast {a c : List (Nat × Array Value × TypeId)} (K : Kx w0 a A w) (e : a = c) : Kx w0 c A w := e ▸ K
/-- Other things are owned now, all of them new. -/
theorem Kx.renew (K : Kx w0 l A w) (hb : Below w.heap.size w w') (h : A'.p w') (hn : ∀ k, A'.f k → w.heap.size ≤ k) : Kx w0 l A' w' :=
  ⟨K.kb.next hb, h, fun x hx hf => by have := hn _ hf; have := (K.kb.all x hx).lt; omega, fun k hf => Nat.le_trans K.below.size (hn k hf)⟩
/-- More is owned, all of it new. -/
theorem Kx.more (K : Kx w0 l A w) (hb : Below w.heap.size w w') (h : A'.p w') (hn : ∀ k, A'.f k → w.heap.size ≤ k) : Kx w0 l (A.and A') w' := by
  have q := K.next hb
  refine ⟨q.kb, ⟨q.a, h⟩, fun x hx hf => ?_, fun k hf => ?_⟩
  · rcases hf with hf | hf
    · exact K.ap x hx hf
    · have := hn _ hf; have := (K.kb.all x hx).lt; omega
  · rcases hf with hf | hf
    · exact K.nw k hf
    · exact Nat.le_trans K.below.size (hn k hf)
theorem kx_add2 {cs : Array Value} {ty : TypeId} (h0 : Kx w0 l A w1) (hb : Below w1.heap.size w1 w) (hk : Blk w b cs ty) (hB : w1.heap.size ≤ b) : Kx w0 (l ++ [(b, cs, ty)]) A w := by
  have q := h0.next hb
  refine ⟨kb_add q.kb hk (fun x hx => by have := (h0.kb.all x hx).lt; omega) (Nat.le_trans h0.below.size hB), q.a, fun x hx hf => ?_, q.nw⟩
  rcases List.mem_append.1 hx with hx | hx
  · exact h0.ap x hx hf
  · rw [List.mem_singleton.1 hx] at hf
    have := A.lt h0.a hf
    have hf : b < w1.heap.size := this
    omega
end
section
variable {P : Program} {ops : Array Oper} {Q : Exit → Act → World → Prop} {a : Act} {w w0 : World} {A : Bd} {rest : List Oper} {o : Oper} {l : List (Nat × Array Value × TypeId)} {b i : Nat} {cs : Array Value} {t0 : TypeId}
theorem kx_box (K : Kx w0 l A w) (ty : TypeId) (x : Operand) (cs : Array Value) (ho : o.op = .box ty x) (hx : a.eval x = .agg cs) (hw : Region.wanted o (yielded ops a.tmps) = true)
    (h : ∀ b w', b = w.heap.size → Kx w0 (l ++ [(b, cs, ty)]) A w' → wpList P ops Q rest (a.put o.dst (.pointer (some ⟨b, 0, none⟩))) w') : wpList P ops Q (o :: rest) a w := by
  refine BigFrame.wpList_want hw fun K' hK => ?_
  unfold Oper.wp execOp
  simp only [ho, hx, Instr.box, Sem.run_bind, newVar, Sem.run_pure]
  exact hK _ _ (h _ _ rfl (K.alloc cs ty))
theorem kx_alloc (K : Kx w0 l A w) (ty : TypeId) (z : Array Value) (ho : o.op = .alloc ty) (hz : ∀ W : World, (zeroValue ty).run P W = .ok (.agg z) W) (hw : Region.wanted o (yielded ops a.tmps) = true)
    (h : ∀ b w', b = w.heap.size → Kx w0 (l ++ [(b, z, ty)]) A w' → wpList P ops Q rest (a.put o.dst (.pointer (some ⟨b, 0, none⟩))) w') : wpList P ops Q (o :: rest) a w := by
  refine BigFrame.wpList_want hw fun K' hK => ?_
  unfold Oper.wp execOp
  simp only [ho, Instr.alloc, Sem.run_bind, hz, Result.andThen_ok, newVar, Sem.run_pure]
  exact hK _ _ (h _ _ rfl (K.alloc z ty))
theorem kx_row (K : Kx w0 l A w) (i : Nat) (e : l[i]? = some (b, cs, t0)) (ty : TypeId) (x y : Operand) (cs' : Array Value) (ho : o.op = .store ty x y) (hg : o.guard = none) (hx : a.eval x = .pointer (some ⟨b, 0, none⟩)) (hy : a.eval y = .agg cs')
    (hi : (P.info? ty).map (·.size) = some cs'.size) (hs : cs.size = cs'.size) (h1 : cs'.all (·.oneCell') = true)
    (h : ∀ w', Kx w0 (l.set i (b, cs', t0)) A w' → wpList P ops Q rest (a.put o.dst undef) w') : wpList P ops Q (o :: rest) a w :=
  wpList_store_row hg ty x y ho b cs' hx hy t0 cs (K.at e) hi hs h1 (h _ (K.row e cs'))
theorem kx_mid (K : Kx w0 l A w) (i : Nat) (e : l[i]? = some (b, cs, t0)) (ty : TypeId) (x y : Operand) (j : Nat) (part : Array Value) (ho : o.op = .store ty x y) (hg : o.guard = none) (hx : a.eval x = .pointer (some ⟨b, j, none⟩)) (hy : a.eval y = .agg part)
    (hi : (P.info? ty).map (·.size) = some part.size) (hs : j + part.size ≤ cs.size) (h1 : part.all (·.oneCell') = true) (cs' : Array Value) (hc : setL cs j part.toList = cs')
    (h : ∀ w', Kx w0 (l.set i (b, cs', t0)) A w' → wpList P ops Q rest (a.put o.dst undef) w') : wpList P ops Q (o :: rest) a w :=
  wpList_store_mid hg ty x y ho b j part hx hy ((K.at e).thereN j part.size hs) hi h1 (h _ (by rw [← hc]; exact K.mid e j part.toList))
theorem kx_set (K : Kx w0 l A w) (i : Nat) (e : l[i]? = some (b, cs, t0)) (ty : TypeId) (x y : Operand) (j : Nat) (v : Value) (ho : o.op = .store ty x y) (hw : Region.wanted o (yielded ops a.tmps) = true) (hx : a.eval x = .pointer (some ⟨b, j, none⟩)) (hy : a.eval y = v)
    (hrun : (Instr.storeAt ty (.pointer (some ⟨b, j, none⟩)) v).run P w = .ok () (w.setCell ⟨b, j, none⟩ v)) (cs' : Array Value) (hc : cs.setIfInBounds j v = cs')
    (h : ∀ w', Kx w0 (l.set i (b, cs', t0)) A w' → wpList P ops Q rest (a.put o.dst undef) w') : wpList P ops Q (o :: rest) a w :=
  BigFrame.wpList_want hw fun K' hK => wp_store_cell ty x y ho ⟨b, j, none⟩ v hx hy hrun (hK _ _ (h _ (by rw [← hc]; exact K.set e j v)))
theorem kx_run_set (K : Kx w0 l A w) (e : l[i]? = some (b, cs, t0)) (ty : TypeId) (j : Nat) (u v : Value) (hu : cs[j]? = some u) (h : ∀ W : World, W.cell? ⟨b, j, none⟩ = some u → W.frozen? ⟨b, j, none⟩ = false → (Instr.storeAt ty (.pointer (some ⟨b, j, none⟩)) v).run P W = .ok () (W.setCell ⟨b, j, none⟩ v)) :
    (Instr.storeAt ty (.pointer (some ⟨b, j, none⟩)) v).run P w = .ok () (w.setCell ⟨b, j, none⟩ v) := h w (K.cell e hu) ((K.at e).free j)
theorem kx_call (K : Kx w0 l A w) (f : FuncId) (args : Array Value) (v : Value) (hw : Region.wanted o (yielded ops a.tmps) = true) (hv : (execOp a.eval o).run P w = .ok (.enter f args) w)
    (hc : Calls P f args w fun e w' => e = .returned v ∧ Below w.heap.size w w') (h : ∀ w', Kx w0 l A w' → wpList P ops Q rest (a.put o.dst v) w') : wpList P ops Q (o :: rest) a w :=
  BigFrame.wpList_want hw fun K' hK => by
    unfold Oper.wp
    simp only [hv, Oper.upon]
    exact hc.mono fun e w' ⟨he, hb⟩ => by subst he; exact hK _ _ (h w' (K.next hb))
theorem kx_all (K : Kx w0 l A w) (i : Nat) (e : l[i]? = some (b, cs, t0)) (ty : TypeId) (x : Operand) (ho : o.op = .load ty x) (hx : a.eval x = .pointer (some ⟨b, 0, none⟩)) {d : TypeDesc} (hu : P.underlying ty = some d)
    (hd : (match d with | .struct _ | .array _ _ => true | _ => false) = true) (hi : (P.info? ty).map (·.size) = some cs.size) : (execOp a.eval o).run P w = .ok (.value (.agg cs)) w :=
  run_loadVar_of ty x ho b hx t0 cs d (K.at e) hu hd hi
theorem kx_part (K : Kx w0 l A w) (i : Nat) (e : l[i]? = some (b, cs, t0)) (ty : TypeId) (x : Operand) (j : Nat) (part : List Value) (ho : o.op = .load ty x) (hx : a.eval x = .pointer (some ⟨b, j, none⟩)) (hp : ∀ k v, part[k]? = some v → cs[j + k]? = some v) {d : TypeDesc}
    (hu : P.underlying ty = some d) (hd : d.isRow = true) (hi : (P.info? ty).map (·.size) = some part.length) : (execOp a.eval o).run P w = .ok (.value (.agg part.toArray)) w :=
  run_loadPart_of ty x ho b j hx t0 cs part d (K.at e) hp hu hd hi
end
end
section
/- The elements of a state's lists, its config, its counts: their rows; rows are the same just where all numbers are. -/
open Go.RowKit

/-- Are both the same? -/
noncomputable def eqB {α : Type} (x y : α) : Bool := @decide (x = y) (Classical.propDecidable _)
theorem eqB_iff {α : Type} {x y : α} : eqB x y = true ↔ x = y := by unfold eqB; exact @decide_eq_true_iff _ (Classical.propDecidable _)
theorem eqB_self {α : Type} (x : α) : eqB x x = true := eqB_iff.2 rfl
theorem eqB_ne {α : Type} {x y : α} (h : x ≠ y) : eqB x y = false := by
  cases c : eqB x y with
  | false => rfl
  | true => exact absurd (eqB_iff.1 c) h
theorem eqB_comm {α : Type} (x y : α) : eqB x y = eqB y x := by
  by_cases h : x = y
  · rw [h]
  · rw [eqB_ne h, eqB_ne (fun e => h e.symm)]
theorem u5c : Tryd.prog.cellsOf 5 = 1 := by kernel_rfl

structure Po where
  p0 : Int
  p1 : Int
  p2 : Bool
  p3 : Int
  p4 : Int
  p5 : Bool
  p6 : Bool
  p7 : Bool
  p8 : Bool
  p9 : Bool
  p10 : Int
  p11 : Int
  p12 : Int
  p13 : Int
  p14 : Int
  p15 : Int
  p16 : Int
  p17 : Int
  p18 : Int
  p19 : Int
  p20 : Int
def poA (x : Po) : Array Value := #[.int .u16 x.p0, .int .i64 x.p1, .bool x.p2, .int .u32 x.p3, .int .i64 x.p4, .bool x.p5, .bool x.p6, .bool x.p7, .bool x.p8, .bool x.p9, .int .i64 x.p10, .int .i64 x.p11, .int .i64 x.p12, .int .u64 x.p13, .int .u32 x.p14, .int .u64 x.p15, .int .u16 x.p16, .int .i64 x.p17, .int .i64 x.p18, .int .i64 x.p19, .int .i64 x.p20]
abbrev poV (x : Po) : Value := .agg (poA x)
def poC (x : Po) : List Value := (poA x).toList
theorem po_size (x : Po) : (poA x).size = 21 := rfl
theorem po_len (x : Po) : (poC x).length = 21 := rfl
theorem po_all (x : Po) : (poA x).all (·.oneCell') = true := by simp [poA, Value.oneCell']
theorem po_one (x : Po) : ∀ u ∈ poC x, u.oneCell' = true := by
  have := po_all x
  rw [Array.all_eq_true'] at this
  intro u hu
  exact this u (by simpa [poC] using hu)
theorem size50 : (Tryd.prog.info? 58).map (·.size) = some 21 := by kernel_rfl
theorem po_info (x : Po) : (Tryd.prog.info? 58).map (·.size) = some (poA x).size := size50
theorem info50' : ∃ i z b, Tryd.prog.info? 58 = some i ∧ i.zero = some z ∧ i.size = 21 ∧ i.bytes = b ∧ z.cells.size = 21 ∧ b ≤ 1000 := by
  obtain ⟨i, h1, h3, h4, h5⟩ := info_parts (show (Tryd.prog.info? 58).map (fun i => (i.zero, i.size, i.bytes)) = some (some (.agg #[.int .u16 0, .int .i64 0, .bool false, .int .u32 0, .int .i64 0, .bool false, .bool false, .bool false, .bool false, .bool false, .int .i64 0, .int .i64 0, .int .i64 0, .int .u64 0, .int .u32 0, .int .u64 0, .int .u16 0, .int .i64 0, .int .i64 0, .int .i64 0, .int .i64 0]), 21, 136) by kernel_rfl)
  exact ⟨i, _, _, h1, h3, h4, h5, rfl, by decide⟩
theorem poT : ElT Tryd.prog 36 58 21 poC := ⟨Tryd.underlying36, info50', by decide, po_len, po_one⟩

theorem equal_46 (a0 b0 : Int) (a1 b1 : Int) (a2 b2 : Bool) (w : World) : (Op.equalIn 9999 51 (.agg #[.int .u16 a0, .int .i64 a1, .bool a2]) (.agg #[.int .u16 b0, .int .i64 b1, .bool b2])).run Tryd.prog w = .ok (decide (a0 = b0) && decide (a1 = b1) && (a2 == b2)) w := by
  have hS : Tryd.prog.underlying 51 = some (.struct (Tryd.prog.fieldsOf 51)) := by kernel_rfl
  have hp : Tryd.prog.stoodInHeld 51 = false := by kernel_rfl
  rw [show (9999 : Nat) = 9998 + 1 from rfl, run_equalIn_agg w 9998 51 _ _ hS hp]
  simp only [Program.fieldsOf, Tryd.underlying51]
  have u3 := Tryd.underlying3
  have u4 := Tryd.underlying4
  have u44 := Tryd.underlying23
  go_simp
  by_cases h0 : a0 = b0
  · subst h0
    by_cases h1 : a1 = b1
    · subst h1
      by_cases h2 : a2 = b2
      · subst h2
        simp
      · simp [h2]
    · simp [h1]
  · simp [h0]

theorem equal_48 (a0 b0 : Int) (a1 b1 : Int) (a2 b2 : Int) (a3 b3 : Int) (w : World) : (Op.equalIn 9999 56 (.agg #[.int .u64 a0, .int .u32 a1, .int .u64 a2, .int .u16 a3]) (.agg #[.int .u64 b0, .int .u32 b1, .int .u64 b2, .int .u16 b3])).run Tryd.prog w = .ok (decide (a0 = b0) && decide (a1 = b1) && decide (a2 = b2) && decide (a3 = b3)) w := by
  have hS : Tryd.prog.underlying 56 = some (.struct (Tryd.prog.fieldsOf 56)) := by kernel_rfl
  have hp : Tryd.prog.stoodInHeld 56 = false := by kernel_rfl
  rw [show (9999 : Nat) = 9998 + 1 from rfl, run_equalIn_agg w 9998 56 _ _ hS hp]
  simp only [Program.fieldsOf, Tryd.underlying56]
  have u22 := Tryd.underlying53
  have u27 := Tryd.underlying52
  have u32 := Tryd.underlying54
  have u44 := Tryd.underlying23
  have u52 := Tryd.underlying70
  go_simp
  by_cases h0 : a0 = b0
  · subst h0
    by_cases h1 : a1 = b1
    · subst h1
      by_cases h2 : a2 = b2
      · subst h2
        by_cases h3 : a3 = b3
        · subst h3
          simp
        · simp [h3]
      · simp [h2]
    · simp [h1]
  · simp [h0]

set_option maxRecDepth 100000 in
set_option maxHeartbeats 4000000 in
theorem equal_po (x y : Po) (w : World) : (Op.equalIn 10000 58 (poV x) (poV y)).run Tryd.prog w = .ok (eqB x y) w := by
  have hS : Tryd.prog.underlying 58 = some (.struct (Tryd.prog.fieldsOf 58)) := by kernel_rfl
  have hp : Tryd.prog.stoodInHeld 58 = false := by kernel_rfl
  obtain ⟨a0, a1, a2, a3, a4, a5, a6, a7, a8, a9, a10, a11, a12, a13, a14, a15, a16, a17, a18, a19, a20⟩ := x
  obtain ⟨b0, b1, b2, b3, b4, b5, b6, b7, b8, b9, b10, b11, b12, b13, b14, b15, b16, b17, b18, b19, b20⟩ := y
  have n46 : ∀ W, (Op.equalIn 9999 51 (.agg #[.int .u16 a0, .int .i64 a1, .bool a2]) (.agg #[.int .u16 b0, .int .i64 b1, .bool b2])).run Tryd.prog W = .ok (decide (a0 = b0) && decide (a1 = b1) && (a2 == b2)) W := fun W => equal_46 a0 b0 a1 b1 a2 b2 W
  have n48 : ∀ W, (Op.equalIn 9999 56 (.agg #[.int .u64 a13, .int .u32 a14, .int .u64 a15, .int .u16 a16]) (.agg #[.int .u64 b13, .int .u32 b14, .int .u64 b15, .int .u16 b16])).run Tryd.prog W = .ok (decide (a13 = b13) && decide (a14 = b14) && decide (a15 = b15) && decide (a16 = b16)) W := fun W => equal_48 a13 b13 a14 b14 a15 b15 a16 b16 W
  unfold poV poA
  rw [show (10000 : Nat) = 9999 + 1 from rfl, run_equalIn_agg w 9999 58 _ _ hS hp]
  simp only [Program.fieldsOf, Tryd.underlying58]
  have u3 := Tryd.underlying3
  have u4 := Tryd.underlying4
  have u22 := Tryd.underlying53
  have u27 := Tryd.underlying52
  have u32 := Tryd.underlying54
  have u44 := Tryd.underlying23
  have u52 := Tryd.underlying70
  go_simp
  by_cases h0 : a0 = b0
  · subst h0
    by_cases h1 : a1 = b1
    · subst h1
      by_cases h2 : a2 = b2
      · subst h2
        by_cases h3 : a3 = b3
        · subst h3
          by_cases h4 : a4 = b4
          · subst h4
            by_cases h5 : a5 = b5
            · subst h5
              by_cases h6 : a6 = b6
              · subst h6
                by_cases h7 : a7 = b7
                · subst h7
                  by_cases h8 : a8 = b8
                  · subst h8
                    by_cases h9 : a9 = b9
                    · subst h9
                      by_cases h10 : a10 = b10
                      · subst h10
                        by_cases h11 : a11 = b11
                        · subst h11
                          by_cases h12 : a12 = b12
                          · subst h12
                            by_cases h13 : a13 = b13
                            · subst h13
                              by_cases h14 : a14 = b14
                              · subst h14
                                by_cases h15 : a15 = b15
                                · subst h15
                                  by_cases h16 : a16 = b16
                                  · subst h16
                                    by_cases h17 : a17 = b17
                                    · subst h17
                                      by_cases h18 : a18 = b18
                                      · subst h18
                                        by_cases h19 : a19 = b19
                                        · subst h19
                                          by_cases h20 : a20 = b20
                                          · subst h20
                                            rw [eqB_self]
                                            simp
                                          · rw [eqB_ne (by simp [h20])]
                                            simp [h20]
                                        · rw [eqB_ne (by simp [h19])]
                                          simp [h19]
                                      · rw [eqB_ne (by simp [h18])]
                                        simp [h18]
                                    · rw [eqB_ne (by simp [h17])]
                                      simp [h17]
                                  · rw [eqB_ne (by simp [h16])]
                                    simp [h16]
                                · rw [eqB_ne (by simp [h15])]
                                  simp [h15]
                              · rw [eqB_ne (by simp [h14])]
                                simp [h14]
                            · rw [eqB_ne (by simp [h13])]
                              simp [h13]
                          · rw [eqB_ne (by simp [h12])]
                            simp [h12]
                        · rw [eqB_ne (by simp [h11])]
                          simp [h11]
                      · rw [eqB_ne (by simp [h10])]
                        simp [h10]
                    · rw [eqB_ne (by simp [h9])]
                      simp [h9]
                  · rw [eqB_ne (by simp [h8])]
                    simp [h8]
                · rw [eqB_ne (by simp [h7])]
                  simp [h7]
              · rw [eqB_ne (by simp [h6])]
                simp [h6]
            · rw [eqB_ne (by simp [h5])]
              simp [h5]
          · rw [eqB_ne (by simp [h4])]
            simp [h4]
        · rw [eqB_ne (by simp [h3])]
          simp [h3]
      · rw [eqB_ne (by simp [h2])]
        simp [h2]
    · rw [eqB_ne (by simp [h1])]
      simp [h1]
  · rw [eqB_ne (by simp [h0])]
    simp [h0]
end
end Go.Proofs.YtelohoomlgjjmaaDoor
