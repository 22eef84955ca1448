/- A region as a whole, in one law: values as a list, the last frame by puts. -/
import Derived.Test.YtiophmmcennjnaaRg7
namespace Go.Proofs.Ytiophmmcennjnaa
open Go.RowKit
set_option linter.unusedVariables false
set_option linter.unusedSimpArgs false

/-- What operands read as. -/
def seen (ρ : Operand → Value) : List (Nat × Value) → Prop | [] => True | (t, v) :: l => ρ (.tmp t) = v ∧ seen ρ l
def vsOf (l : List Value) (i : Nat) : Value := l.toArray.getD i undef
def putsZ : List Oper → List Value → Array Value → Array Value
  | ⟨some d, _, _, _, _, _⟩ :: l, v :: vs, t => putsZ l vs (t.setIfInBounds d v)
  | ⟨none, _, _, _, _, _⟩ :: l, _ :: vs, t => putsZ l vs t
  | _, _, t => t
section
variable {P : Program} {ops : Array Oper} {a : Act} {L : Nat → Bool} {i : Nat} {o : Oper} {w : World} {Q : Exit → Act → World → Prop} {σ : Type}
theorem getD_other {A B : Array Value} {i j : Nat} (h : A.setIfInBounds i undef = B.setIfInBounds i undef) (hj : j ≠ i) : A.getD j undef = B.getD j undef := by
  have q := congrArg (fun z => z[j]?) h
  simp only [Array.getElem?_setIfInBounds_ne (Ne.symm hj)] at q
  rw [Array.getD_eq_getD_getElem?, Array.getD_eq_getD_getElem?, q]
theorem vs_other {A B : List Value} (h : A.set i undef = B.set i undef) (hL : L i = false) : ∀ j, L j = true → vsOf A j = vsOf B j := fun j hj =>
  getD_other (i := i) (by simpa using h) fun e => by rw [e, hL] at hj; cases hj
theorem stepW_see {ρ : Operand → Value} {K : Value → World → Prop} (l : List (Nat × Value)) (hl : l.map (fun p => ρ (.tmp p.1)) = l.map (fun p => p.2)) (hc : ∀ v, ρ (.const v) = v) (hf : ∀ f, ρ (.func f) = .func (.func f) #[] #[])
    (h : ∀ ρ' : Operand → Value, (∀ v, ρ' (.const v) = v) → (∀ f, ρ' (.func f) = .func (.func f) #[] #[]) → seen ρ' l → stepW P o ρ' K w) : stepW P o ρ K w := by
  refine h ρ hc hf ?_
  clear h
  induction l with
  | nil => trivial
  | cons a l ih =>
    simp only [List.map_cons, List.cons.injEq] at hl
    exact ⟨hl.1, ih hl.2⟩
theorem vs_two {A B : List Value} {k : Nat} (h : (A.set i undef).set k undef = (B.set i undef).set k undef) (hL : L i = false) (hk : L k = false) : ∀ j, L j = true → vsOf A j = vsOf B j := fun j hj => by
  have q := vs_other (A := A.set i undef) (B := B.set i undef) (i := k) h hk j hj
  have hne : j ≠ i := fun e => by rw [e, hL] at hj; cases hj
  have e : ∀ X : List Value, vsOf (X.set i undef) j = vsOf X j := fun X => by
    unfold vsOf
    rw [Array.getD_eq_getD_getElem?, Array.getD_eq_getD_getElem?]
    simp [List.getElem?_set_ne (Ne.symm hne)]
  rw [e, e] at q
  exact q
theorem stepW_app {ρ : Operand → Value} {K : Value → World → Prop} {w' : World} (x y : Operand) (t : TypeId) (ho : o.op = .call { callee := .builtin .append, args := #[x, y], argTypes := #[t, t] }) (v u r : Value) (hx : ρ x = v) (hy : ρ y = u) (hrun : (Builtin.append_ #[t, t] o.type #[v, u]).run P w = .ok r w') (hK : K r w') : stepW P o ρ K w := by
  unfold stepW execOp
  simp only [ho, resolve, invoke, builtin, Sem.run_bind, Sem.run_pure, Result.andThen_ok, List.map_toArray, List.map_cons, List.map_nil, hx, hy, hrun]
  exact hK
theorem putsZ_some {d : Nat} {op ty pos aft g l v vs t} : putsZ (⟨some d, op, ty, pos, aft, g⟩ :: l) (v :: vs) t = putsZ l vs (t.setIfInBounds d v) := rfl
theorem putsZ_none {op ty pos aft g l v vs t} : putsZ (⟨none, op, ty, pos, aft, g⟩ :: l) (v :: vs) t = putsZ l vs t := rfl
theorem putsZ_nil {t vs} : putsZ [] vs t = t := by cases vs <;> rfl
theorem putsZ_size : ∀ (os : List Oper) (vs : List Value) (t : Array Value), (putsZ os vs t).size = t.size
  | [], vs, t => by rw [putsZ_nil]
  | _ :: _, [], t => by unfold putsZ; simp
  | ⟨some d, _, _, _, _, _⟩ :: l, v :: vs, t => by rw [putsZ_some, putsZ_size l vs]; simp
  | ⟨none, _, _, _, _, _⟩ :: l, v :: vs, t => by rw [putsZ_none, putsZ_size l vs]
/-- What stands in a slot behind them. -/
theorem putsZ_at : ∀ (os : List Oper) (vs : List Value) (t : Array Value) (k : Nat), vs.length = os.length → (∀ (i j : Nat) (o o' : Oper) (d : Nat), os[i]? = some o → os[j]? = some o' → o.dst = some d → o'.dst = some d → i = j) → k < t.size →
    (putsZ os vs t)[k]? = match (List.range os.length).find? (fun i => (os[i]?.bind (·.dst)) == some k) with | some i => vs[i]? | none => t[k]?
  | [], [], t, k, h, hu, hk => by rw [putsZ_nil]; rfl
  | o :: os, v :: vs, t, k, h, hu, hk => by
    have hu' : ∀ (i j : Nat) (o o' : Oper) (d : Nat), os[i]? = some o → os[j]? = some o' → o.dst = some d → o'.dst = some d → i = j := fun i j o1 o2 d h1 h2 h3 h4 => by
      have := hu (i + 1) (j + 1) o1 o2 d (by simpa using h1) (by simpa using h2) h3 h4
      omega
    have h' : vs.length = os.length := by simpa using h
    have er : (List.range (o :: os).length).find? (fun i => ((o :: os)[i]?.bind (·.dst)) == some k) = if o.dst == some k then some 0 else ((List.range os.length).find? (fun i => (os[i]?.bind (·.dst)) == some k)).map (· + 1) := by
      rw [List.length_cons, List.range_succ_eq_map, List.find?_cons]
      have e0 : ((o :: os)[0]?.bind (·.dst) == some k) = (o.dst == some k) := rfl
      rw [e0]
      cases c : o.dst == some k with
      | true => simp
      | false =>
        simp only [Bool.false_eq_true, if_false]
        rw [List.find?_map]
        rfl
    rw [er]
    obtain ⟨dst, op, ty, pos, aft, g⟩ := o
    cases dst with
    | none =>
      rw [putsZ_none, putsZ_at os vs t k h' hu' hk]
      rw [if_neg (by simp)]
      cases (List.range os.length).find? (fun i => (os[i]?.bind (·.dst)) == some k) <;> simp
    | some d =>
      rw [putsZ_some, putsZ_at os vs _ k h' hu' (by simpa using hk)]
      by_cases c : d = k
      · subst c
        rw [if_pos (by simp)]
        cases q : (List.range os.length).find? (fun i => (os[i]?.bind (·.dst)) == some d) with
        | none => simp [hk]
        | some i =>
          exfalso
          have q2 := List.find?_some q
          rw [beq_iff_eq] at q2
          cases q3 : os[i]? with
          | none => rw [q3] at q2; cases q2
          | some o2 =>
            rw [q3] at q2
            have := hu 0 (i + 1) _ o2 d rfl (by simpa using q3) rfl q2
            omega
      · rw [if_neg (by simpa using c), Array.getElem?_setIfInBounds_ne c]
        cases (List.range os.length).find? (fun i => (os[i]?.bind (·.dst)) == some k) <;> simp
theorem rgF_puts {vals : List Value} (hn : rgOnce ops a.tmps.size = true) (hlen : vals.length = ops.size) : rgF ops (vsOf vals) a (fun _ => true) = { a with tmps := putsZ ops.toList vals a.tmps } := by
  unfold rgF
  have e : rgT ops (vsOf vals) a.tmps (fun _ => true) = putsZ ops.toList vals a.tmps := by
    refine Array.ext_getElem? fun k => ?_
    rw [rgT_at]
    by_cases hk : k < a.tmps.size
    · have hu : ∀ (i j : Nat) (o o' : Oper) (d : Nat), ops.toList[i]? = some o → ops.toList[j]? = some o' → o.dst = some d → o'.dst = some d → i = j := fun i j o o' d h1 h2 h3 h4 => by
        have q1 := (rgOnce_at hn (i := i) (by rw [← Array.getElem?_toList]; exact h1) h3).1
        have q2 := (rgOnce_at hn (i := j) (by rw [← Array.getElem?_toList]; exact h2) h4).1
        rw [q1] at q2
        exact Option.some.inj q2
      rw [putsZ_at _ _ _ k (by simpa using hlen) hu hk, Array.getElem?_eq_getElem hk]
      have ew : (List.range ops.toList.length).find? (fun i => (ops.toList[i]?.bind (·.dst)) == some k) = wrOf ops k := by
        unfold wrOf
        simp
      rw [ew]
      cases c : wrOf ops k with
      | none => rfl
      | some i =>
        obtain ⟨o, h1, h2⟩ := wr_some c
        have hi : i < vals.length := by rw [hlen]; exact (Array.getElem?_eq_some_iff.1 h1).1
        show some (vsOf vals i) = vals[i]?
        unfold vsOf
        rw [List.getElem?_eq_getElem hi, Array.getD_eq_getD_getElem?]
        simp [hi]
    · rw [Array.getElem?_eq_none (by omega), Array.getElem?_eq_none (by rw [putsZ_size]; omega)]
      rfl
  rw [e]
def rgOk (P : Program) (ops : Array Oper) (n : Nat) : Bool := P.follows .mixedOrders && dag ops && rgOnce ops n && depsOk ops && guardsOk ops && noSel ops
def rgOkL (ops : Array Oper) (n : Nat) : Bool := textOk ops && rgOnce ops n && depsOk ops && guardsOk ops && noSel ops
/-- A region that draws its order. -/
theorem rg {id : Nat} (vals : σ → List Value) (C : σ → (Nat → Bool) → World → Prop) (s0 : σ) (ps qs : List Nat) (ls : List (Nat × (σ → Addr))) (rs : List Nat) (hok : rgOk P ops a.tmps.size = true) (hlen : ∀ s, (vals s).length = ops.size)
    (hcov : (List.range ops.size).all (fun i => ps.contains i || qs.contains i || (ls.map Prod.fst).contains i || rs.contains i) = true)
    (hpw : ∀ s, ps.map (wantI ops (vsOf (vals s))) = ps.map fun _ => true) (hp : ∀ s w, ps.map (outV P ops (vsOf (vals s)) a w) = ps.map (ansV (vsOf (vals s)) w))
    (hqw : ∀ s, qs.map (wantI ops (vsOf (vals s))) = qs.map fun _ => false) (hq : ∀ s, qs.map (vsOf (vals s)) = qs.map fun _ => undef)
    (hlw : ∀ s, ls.map (fun e => wantI ops (vsOf (vals s)) e.1) = ls.map fun _ => true) (hl : ∀ s, ls.map (fun e => ldAt P ops (vsOf (vals s)) a e.1) = ls.map fun e => (true, .pointer (some (e.2 s))))
    (h0 : C s0 (fun _ => false) w.drew)
    (hc : ∀ s L w, C s L w → cellsW ops L w s (vsOf (vals s)) ls)
    (hC : ∀ i, i ∈ ps ∨ i ∈ qs ∨ i ∈ ls.map Prod.fst → ∀ s L w, C s L w → C s (upd L i) w)
    (hr : ∀ i, i ∈ rs → ∀ s L w, C s L w → L i = false → (∀ j ∈ afters ops i, L j = true) → (∀ i, L i = true → ∀ j ∈ afters ops i, L j = true) → wantI ops (vsOf (vals s)) i = true ∧ ∀ o, ops[i]? = some o → stepW P o (view ops (vsOf (vals s)) a i) (fun u w' => ∃ s', (∀ j, L j = true → vsOf (vals s) j = vsOf (vals s') j) ∧ u = vsOf (vals s') i ∧ C s' (upd L i) w') w)
    (hend : ∀ s L w, C s L w → (∀ i, i < ops.size → L i = true) → Q .normal { a with tmps := putsZ ops.toList (vals s) a.tmps } w) : (Code.region id ops true).wp P Q a w := by
  unfold rgOk at hok
  simp only [Bool.and_eq_true] at hok
  obtain ⟨⟨⟨⟨⟨k1, k2⟩, k3⟩, k4⟩, k5⟩, k6⟩ := hok
  exact region_holes (fun s => vsOf (vals s)) C s0 k1 k2 k3 k4 k5 k6 h0 (steps_of3 _ C ps qs ls rs hcov hpw hp hqw hq hlw hl hc hC hr) fun s L w h1 h2 => by rw [rgF_puts k3 (hlen s)]; exact hend s L w h1 h2
/-- A region in the text's order. -/
theorem rgl {id : Nat} (vals : σ → List Value) (C : σ → (Nat → Bool) → World → Prop) (s0 : σ) (ps qs : List Nat) (ls : List (Nat × (σ → Addr))) (rs : List Nat) (hok : rgOkL ops a.tmps.size = true) (hlen : ∀ s, (vals s).length = ops.size)
    (hcov : (List.range ops.size).all (fun i => ps.contains i || qs.contains i || (ls.map Prod.fst).contains i || rs.contains i) = true)
    (hpw : ∀ s, ps.map (wantI ops (vsOf (vals s))) = ps.map fun _ => true) (hp : ∀ s w, ps.map (outV P ops (vsOf (vals s)) a w) = ps.map (ansV (vsOf (vals s)) w))
    (hqw : ∀ s, qs.map (wantI ops (vsOf (vals s))) = qs.map fun _ => false) (hq : ∀ s, qs.map (vsOf (vals s)) = qs.map fun _ => undef)
    (hlw : ∀ s, ls.map (fun e => wantI ops (vsOf (vals s)) e.1) = ls.map fun _ => true) (hl : ∀ s, ls.map (fun e => ldAt P ops (vsOf (vals s)) a e.1) = ls.map fun e => (true, .pointer (some (e.2 s))))
    (h0 : C s0 (fun _ => false) w)
    (hc : ∀ s L w, C s L w → cellsW ops L w s (vsOf (vals s)) ls)
    (hC : ∀ i, i ∈ ps ∨ i ∈ qs ∨ i ∈ ls.map Prod.fst → ∀ s L w, C s L w → C s (upd L i) w)
    (hr : ∀ i, i ∈ rs → ∀ s L w, C s L w → L i = false → (∀ j ∈ afters ops i, L j = true) → (∀ i, L i = true → ∀ j ∈ afters ops i, L j = true) → wantI ops (vsOf (vals s)) i = true ∧ ∀ o, ops[i]? = some o → stepW P o (view ops (vsOf (vals s)) a i) (fun u w' => ∃ s', (∀ j, L j = true → vsOf (vals s) j = vsOf (vals s') j) ∧ u = vsOf (vals s') i ∧ C s' (upd L i) w') w)
    (hend : ∀ s L w, C s L w → (∀ i, i < ops.size → L i = true) → Q .normal { a with tmps := putsZ ops.toList (vals s) a.tmps } w) : (Code.region id ops false).wp P Q a w := by
  unfold rgOkL at hok
  simp only [Bool.and_eq_true] at hok
  obtain ⟨⟨⟨⟨k2, k3⟩, k4⟩, k5⟩, k6⟩ := hok
  exact region_holes_lit (fun s => vsOf (vals s)) C s0 k2 k3 k4 k5 k6 h0 (steps_of3 _ C ps qs ls rs hcov hpw hp hqw hq hlw hl hc hC hr) fun s L w h1 h2 => by rw [rgF_puts k3 (hlen s)]; exact hend s L w h1 h2
end
end Go.Proofs.Ytiophmmcennjnaa
