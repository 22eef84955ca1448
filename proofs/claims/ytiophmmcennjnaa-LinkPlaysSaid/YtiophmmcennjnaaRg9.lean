/- A region as a whole: short forms. -/
import Derived.Test.YtiophmmcennjnaaRg8
import Derived.Test.YtiophmmcennjnaaBld
import Derived.Deep.MidRow
namespace Go.Proofs.Ytiophmmcennjnaa
open Go.RowKit
set_option linter.unusedVariables false
set_option linter.unusedSimpArgs false
section
variable {P : Program} {ops : Array Oper} {a : Act} {L : Nat → Bool} {i : Nat} {o : Oper} {w w' : World} {Q : Exit → Act → World → Prop} {σ : Type}
theorem stepW_seeG {ρ : Operand → Value} {K : Value → World → Prop} (l : List (Nat × Value)) (hl : l.map (fun p => ρ (.tmp p.1)) = l.map (fun p => p.2)) (hc : ∀ v, ρ (.const v) = v) (hf : ∀ f, ρ (.func f) = .func (.func f) #[] #[]) (hg : ∀ g, ρ (.global g) = .pointer (some ⟨g, 0, none⟩))
    (h : ∀ ρ' : Operand → Value, (∀ v, ρ' (.const v) = v) → (∀ f, ρ' (.func f) = .func (.func f) #[] #[]) → (∀ g, ρ' (.global g) = .pointer (some ⟨g, 0, none⟩)) → seen ρ' l → stepW P o ρ' K w) : stepW P o ρ K w := by
  refine h ρ hc hf hg ?_
  clear h
  induction l with
  | nil => trivial
  | cons a l ih =>
    simp only [List.map_cons, List.cons.injEq] at hl
    exact ⟨hl.1, ih hl.2⟩
/-- What the rest of the operations must do, one by one. -/
def RsAll (P : Program) (ops : Array Oper) (vals : σ → List Value) (C : σ → (Nat → Bool) → World → Prop) : List (Nat × (σ → List (Nat × Value))) → Prop
  | [] => True
  | (i, us) :: l => (∀ s L w, C s L w → L i = false → (∀ j ∈ afters ops i, L j = true) → (∀ i, L i = true → ∀ j ∈ afters ops i, L j = true) → ∀ ρ : Operand → Value, (∀ v, ρ (.const v) = v) → (∀ f, ρ (.func f) = .func (.func f) #[] #[]) → (∀ g, ρ (.global g) = .pointer (some ⟨g, 0, none⟩)) → seen ρ (us s) → ∀ o, ops[i]? = some o →
      stepW P o ρ (fun u w' => ∃ s', (∀ j, L j = true → vsOf (vals s) j = vsOf (vals s') j) ∧ u = vsOf (vals s') i ∧ C s' (upd L i) w') w) ∧ RsAll P ops vals C l
theorem RsAll.at {vals : σ → List Value} {C : σ → (Nat → Bool) → World → Prop} : ∀ {rs : List (Nat × (σ → List (Nat × Value)))} (h : RsAll P ops vals C rs) {i us}, (i, us) ∈ rs → ∀ s L w, C s L w → L i = false → (∀ j ∈ afters ops i, L j = true) → (∀ i, L i = true → ∀ j ∈ afters ops i, L j = true) → ∀ ρ : Operand → Value, (∀ v, ρ (.const v) = v) → (∀ f, ρ (.func f) = .func (.func f) #[] #[]) → (∀ g, ρ (.global g) = .pointer (some ⟨g, 0, none⟩)) → seen ρ (us s) → ∀ o, ops[i]? = some o →
      stepW P o ρ (fun u w' => ∃ s', (∀ j, L j = true → vsOf (vals s) j = vsOf (vals s') j) ∧ u = vsOf (vals s') i ∧ C s' (upd L i) w') w
  | (j, u2) :: l, h, i, us, hm => by
    rcases List.mem_cons.1 hm with e | hm
    · cases e; exact h.1
    · exact RsAll.at h.2 hm
def psOf (n : Nat) (qs ls rs : List Nat) : List Nat := (List.range n).filter fun i => !(qs.contains i || ls.contains i || rs.contains i)
theorem rk {id : Nat} {dr : Bool} (vals : σ → List Value) (C : σ → (Nat → Bool) → World → Prop) (s0 : σ) (qs : List Nat) (ls : List (Nat × (σ → Addr))) (rs : List (Nat × (σ → List (Nat × Value)))) (D : List Nat)
    (h0 : C s0 (fun _ => false) (bif dr then w.drew else w))
    (hc : ∀ s L w, C s L w → cellsW ops L w s (vsOf (vals s)) ls)
    (hD : ∀ s L L' w, (∀ k ∈ D, L k = L' k) → C s L w → C s L' w)
    (hr : RsAll P ops vals C rs)
    (hend : ∀ s L w, C s L w → (∀ i, i < ops.size → L i = true) → Q .normal { a with tmps := putsZ ops.toList (vals s) a.tmps } w)
    (hok : (bif dr then rgOk P ops a.tmps.size else rgOkL ops a.tmps.size) = true := by kernel_rfl)
    (hlen : ∀ s, (vals s).length = ops.size := by intros; rfl)
    (hdis : (D.all fun k => (rs.map Prod.fst).contains k && !(qs ++ ls.map Prod.fst).contains k) = true := by kernel_rfl)
    (hpw : ∀ s, (psOf ops.size qs (ls.map Prod.fst) (rs.map Prod.fst)).map (wantI ops (vsOf (vals s))) = (psOf ops.size qs (ls.map Prod.fst) (rs.map Prod.fst)).map fun _ => true := by intros; kernel_rfl)
    (hp : ∀ s w, (psOf ops.size qs (ls.map Prod.fst) (rs.map Prod.fst)).map (outV P ops (vsOf (vals s)) a w) = (psOf ops.size qs (ls.map Prod.fst) (rs.map Prod.fst)).map (ansV (vsOf (vals s)) w) := by intros; kernel_rfl)
    (hqw : ∀ s, qs.map (wantI ops (vsOf (vals s))) = qs.map fun _ => false := by intros; kernel_rfl) (hq : ∀ s, qs.map (vsOf (vals s)) = qs.map fun _ => undef := by intros; kernel_rfl)
    (hlw : ∀ s, ls.map (fun e => wantI ops (vsOf (vals s)) e.1) = ls.map fun _ => true := by intros; kernel_rfl) (hl : ∀ s, ls.map (fun e => ldAt P ops (vsOf (vals s)) a e.1) = ls.map fun e => (true, .pointer (some (e.2 s))) := by intros; kernel_rfl)
    (hu : ∀ s, rs.map (fun e => (wantI ops (vsOf (vals s)) e.1, (e.2 s).map fun p => view ops (vsOf (vals s)) a e.1 (.tmp p.1))) = rs.map fun e => (true, (e.2 s).map fun p => p.2) := by intros; kernel_rfl) : (Code.region id ops dr).wp P Q a w := by
  have hcov : (List.range ops.size).all (fun i => (psOf ops.size qs (ls.map Prod.fst) (rs.map Prod.fst)).contains i || qs.contains i || (ls.map Prod.fst).contains i || (rs.map Prod.fst).contains i) = true := by
    rw [List.all_eq_true]
    intro i hi
    unfold psOf
    cases c : (qs.contains i || (ls.map Prod.fst).contains i || (rs.map Prod.fst).contains i) with
    | true =>
      simp only [Bool.or_eq_true] at c ⊢
      rcases c with (c | c) | c
      · exact .inl (.inl (.inr c))
      · exact .inl (.inr c)
      · exact .inr c
    | false =>
      simp only [Bool.or_eq_true]
      refine .inl (.inl (.inl ?_))
      rw [List.contains_iff_mem, List.mem_filter]
      exact ⟨hi, by rw [c]; rfl⟩
  rw [List.all_eq_true] at hdis
  have hC : ∀ i, i ∈ psOf ops.size qs (ls.map Prod.fst) (rs.map Prod.fst) ∨ i ∈ qs ∨ i ∈ ls.map Prod.fst → ∀ s L w, C s L w → C s (upd L i) w := by
    intro i hi s L w h
    refine hD s L (upd L i) w (fun k hk => ?_) h
    have q := hdis k hk
    rw [Bool.and_eq_true] at q
    have hne : ¬ k = i := by
      rintro rfl
      rcases hi with hi | hi
      · unfold psOf at hi
        rw [List.mem_filter] at hi
        have q2 := hi.2
        rw [q.1] at q2
        simp at q2
      · have q2 := q.2
        have hi : k ∈ qs ++ ls.map Prod.fst := List.mem_append.2 hi
        rw [← List.contains_iff_mem] at hi
        rw [hi] at q2
        cases q2
    unfold upd
    rw [if_neg hne]
  have hr2 : ∀ i, i ∈ rs.map Prod.fst → ∀ s L w, C s L w → L i = false → (∀ j ∈ afters ops i, L j = true) → (∀ i, L i = true → ∀ j ∈ afters ops i, L j = true) → wantI ops (vsOf (vals s)) i = true ∧ ∀ o, ops[i]? = some o → stepW P o (view ops (vsOf (vals s)) a i) (fun u w' => ∃ s', (∀ j, L j = true → vsOf (vals s) j = vsOf (vals s') j) ∧ u = vsOf (vals s') i ∧ C s' (upd L i) w') w := by
    intro i hi s L w h1 h2 h3 h4
    obtain ⟨⟨i, us⟩, he, rfl⟩ := List.mem_map.1 hi
    have q := rg_map_mem (hu s) he
    simp only [Prod.mk.injEq] at q
    exact ⟨q.1, fun o ho => stepW_seeG (us s) q.2 (fun _ => rfl) (fun _ => rfl) (fun _ => rfl) fun ρ a1 a2 a4 a3 => hr.at he s L w h1 h2 h3 h4 ρ a1 a2 a4 a3 o ho⟩
  cases dr with
  | true => exact rg vals C s0 _ qs ls (rs.map Prod.fst) hok hlen hcov hpw hp hqw hq hlw hl h0 hc hC hr2 hend
  | false => exact rgl vals C s0 _ qs ls (rs.map Prod.fst) hok hlen hcov hpw hp hqw hq hlw hl h0 hc hC hr2 hend
end
section
variable {P : Program} {o : Oper} {w w' : World} {σ : Type} {s : σ} {L : Nat → Bool} {i : Nat} {ρ : Operand → Value} {vals : σ → List Value} {C : σ → (Nat → Bool) → World → Prop}
theorem l_var (ty : TypeId) (x : Operand) (ho : o.op = .load ty x) (g : Nat) (hx : ρ x = .pointer (some ⟨g, 0, none⟩)) (t : TypeId) (cs : Array Value) (d : TypeDesc) (hg : Blk w g cs t)
    (hu : P.underlying ty = some d) (hd : (match d with | .struct _ | .array _ _ => true | _ => false) = true) (hi : (P.info? ty).map (·.size) = some cs.size) : (execOp ρ o).run P w = .ok (.value (.agg cs)) w := by
  unfold execOp
  simp only [ho, hx, Instr.loadAt, Instr.sureAddr, Sem.run_bind, Sem.run_pure, Result.andThen_ok, run_loadVar_row w g t ty cs (0, 0) d hg hu hd hi]
theorem l_partof (ty : TypeId) (x : Operand) (ho : o.op = .load ty x) (g j : Nat) (hx : ρ x = .pointer (some ⟨g, j, none⟩)) (t : TypeId) (cs : Array Value) (part : List Value) (d : TypeDesc) (hg : Blk w g cs t) (hp : ∀ i v, part[i]? = some v → cs[j + i]? = some v)
    (hu : P.underlying ty = some d) (hd : d.isRow = true) (hi : (P.info? ty).map (·.size) = some part.length) : (execOp ρ o).run P w = .ok (.value (.agg part.toArray)) w := by
  unfold execOp
  have hr : w.rangeAt g j part := fun i v hv => by rw [hg.cell]; exact hp i v hv
  simp only [ho, hx, Instr.loadAt, Instr.sureAddr, Sem.run_bind, Sem.run_pure, Result.andThen_ok, run_loadVar_mid w g j ty part d hr hu hd hi]
theorem l_range (ty : TypeId) (x : Operand) (ho : o.op = .load ty x) (g j : Nat) (hx : ρ x = .pointer (some ⟨g, j, none⟩)) (arr : Array Value) (d : TypeDesc) (hr : w.rangeAt g j arr.toList)
    (hu : P.underlying ty = some d) (hd : d.isRow = true) (hi : (P.info? ty).map (·.size) = some arr.size) : (execOp ρ o).run P w = .ok (.value (.agg arr)) w := by
  unfold execOp
  simp only [ho, hx, Instr.loadAt, Instr.sureAddr, Sem.run_bind, Sem.run_pure, Result.andThen_ok, run_loadVar_mid w g j ty arr.toList d hr hu hd (by simpa using hi), Array.toArray_toList]
theorem l_no (c x y : Operand) (v : Value) (ho : o.op = .pick c x y) (hc : ρ c = .bool false) (hy : ρ y = v) : (execOp ρ o).run P w = .ok (.value v) w := by
  unfold execOp
  simp only [ho, hc, hy]
  simp [asBool, Sem.run_pure, Result.andThen_ok]
theorem l_yes (c x y : Operand) (v : Value) (ho : o.op = .pick c x y) (hc : ρ c = .bool true) (hy : ρ x = v) : (execOp ρ o).run P w = .ok (.value v) w := by
  unfold execOp
  simp only [ho, hc, hy]
  simp [asBool, Sem.run_pure, Result.andThen_ok]
theorem l_build (t : TypeId) (parts : List (Nat × Operand)) (ho : o.op = .build t parts.toArray) (vals : List (Nat × Value)) (arr : Array Value)
    (hv : parts.map (fun x => (x.1, ρ x.2)) = vals) (hb : P.built t vals = some arr) : (execOp ρ o).run P w = .ok (.value (.agg arr)) w := by
  subst hv
  have e : (Array.map (fun x => (x.1, ρ x.2)) parts.toArray).toList = parts.map (fun x => (x.1, ρ x.2)) := by simp
  rw [← e] at hb
  unfold execOp
  simp only [ho, Sem.run_bind, run_build w t _ arr hb, Result.andThen_ok, Sem.run_pure]
/-- A value. -/
theorem sw {K : Value → World → Prop} (v : Value) (h : (execOp ρ o).run P w = .ok (.value v) w') (hK : K v w') : stepW P o ρ K w := stepW_val h hK
/-- A call. -/
theorem sc {K : Value → World → Prop} {B : World → Prop} (v : Value) (f : FuncId) (args : Array Value) (hcall : Calls P f args w fun e w2 => e = .returned v ∧ B w2) (h : (execOp ρ o).run P w = .ok (.enter f args) w) (hK : ∀ w2, B w2 → K v w2) : stepW P o ρ K w :=
  stepW_call h (hcall.mono fun _ w2 ⟨q1, hb⟩ => ⟨v, q1, hK w2 hb⟩)
/-- A cell is stored. -/
theorem ss {K : Value → World → Prop} (ty : TypeId) (x y : Operand) (ho : o.op = .store ty x y) (p : Addr) (v : Value) (hx : ρ x = .pointer (some p)) (hy : ρ y = v) (hs : (Instr.storeAt ty (.pointer (some p)) v).run P w = .ok () (w.setCell p v)) (hK : K undef (w.setCell p v)) : stepW P o ρ K w :=
  stepW_store ho hx hy hs hK
/-- A whole row is stored. -/
theorem sr {K : Value → World → Prop} (ty : TypeId) (x y : Operand) (ho : o.op = .store ty x y) (g : Nat) (cells : Array Value) (hx : ρ x = .pointer (some ⟨g, 0, none⟩)) (hy : ρ y = .agg cells) (t : TypeId) (old : Array Value) (hg : w.heap[g]? = some (.cells old t (0, 0))) (hi : (P.info? ty).map (·.size) = some cells.size)
    (hold : old.size = cells.size) (h1 : cells.all (·.oneCell') = true) (hK : K undef (w.setRow g cells)) : stepW P o ρ K w := by
  unfold stepW execOp
  simp only [ho, hx, hy, Instr.storeAt, Instr.sureAddr, Sem.run_bind, Sem.run_pure, Result.andThen_ok, run_storeVar_row w g t ty old cells hg hi hold h1]
  exact hK
/-- A part of a row is stored. -/
theorem sm {K : Value → World → Prop} (ty : TypeId) (x y : Operand) (ho : o.op = .store ty x y) (b j : Nat) (cells : Array Value) (hx : ρ x = .pointer (some ⟨b, j, none⟩)) (hy : ρ y = .agg cells) (ht : w.there b j cells.size) (hi : (P.info? ty).map (·.size) = some cells.size) (h1 : cells.all (·.oneCell') = true)
    (hK : K undef (w.setCells b j cells.toList)) : stepW P o ρ K w := by
  unfold stepW execOp
  simp only [ho, hx, hy, Instr.storeAt, Instr.sureAddr, Sem.run_bind, Sem.run_pure, Result.andThen_ok, run_storeVar_mid w b j ty cells ht hi h1]
  exact hK
end
end Go.Proofs.Ytiophmmcennjnaa
