import Derived.Test.YteeinlbhcdpnnaaDoorG1
import Derived.Deep.MidRow
import Derived.Test.YteeinlbhcdpnnaaDoorRows
import Derived.WalkKit
import Derived.WalkSpells
import Derived.WalkLawsBesides
import Derived.IntWalk
import Derived.Lib.Hide
import Derived.Laws.IdiomStrings
import Derived.ChangeKeysEq
import Derived.Shelf.Abstract
import Derived.Laws.StructEq
import Derived.Maps.AppendAt
import Derived.Laws.OwnMore
import Derived.Deep.AppendLies
import Derived.OwnWalk
import Derived.Below
set_option linter.unusedSimpArgs false
set_option linter.unusedVariables false
namespace Go.Proofs.YteeinlbhcdpnnaaDoor
section
open Go.RowKit
def stepW (P : Program) (o : Oper) (ρ : Operand → Value) (K : Value → World → Prop) (w : World) : Prop :=
 match (execOp ρ o).run P w with
 | .ok (.value u) w' => K u w'
 | .ok .skip w' => K undef w'
 | .ok (.enter f args) w' => Calls P f args w' fun e w'' => ∃ u, e = .returned u ∧ K u w''
 | .ok (.row row args) w' => Rows P row args w' fun u w'' => K u w''
 | _ => False
section
variable {P : Program} {ops : Array Oper} {a : Act} {L : Nat → Bool} {i : Nat} {o : Oper} {w : World} {Q : Exit → Act → World → Prop} {σ : Type}
theorem rgF_agree {vs vs' : Nat → Value} (h : ∀ j, L j = true → vs j = vs' j) : rgF ops vs a L = rgF ops vs' a L := by
 unfold rgF
 have e : rgT ops vs a.tmps L = rgT ops vs' a.tmps L := by
  refine Array.ext_getElem? fun k => ?_
  rw [rgT_at, rgT_at]
  congr 1
  funext old
  cases c : wrOf ops k with
  | none => rfl
  | some j =>
   show (bif L j then _ else _) = bif L j then _ else _
   cases c2 : L j with
   | false => rfl
   | true => exact h j c2
 rw [e]
theorem step_holes (vs : σ → Nat → Value) (C : σ → (Nat → Bool) → World → Prop) (hn : rgOnce ops a.tmps.size = true) (hdep : depsOk ops = true) (hg : guardsOk ops = true) (hsel : noSel ops = true)
 (hstep : ∀ i o, ops[i]? = some o → ∀ s L w, C s L w → L i = false → (∀ j ∈ afters ops i, L j = true) → (∀ i, L i = true → ∀ j ∈ afters ops i, L j = true) → if wantV (vs s) o then stepW P o (view ops (vs s) a i) (fun u w' => ∃ s', (∀ j, L j = true → vs s j = vs s' j) ∧ u = vs s' i ∧ C s' (upd L i) w') w else undef = vs s i ∧ C s (upd L i) w)
 (hi : i < ops.size) {s : σ} {w' : World} (hC : C s L w') (hL : L i = false) (ha : ∀ j ∈ afters ops i, L j = true) (hdc : ∀ i, L i = true → ∀ j ∈ afters ops i, L j = true) : wpOp P ops Q i (fun a' w' => ∃ s, a' = rgF ops (vs s) a (upd L i) ∧ C s (upd L i) w') (rgF ops (vs s) a L) w' := by
 have ho : ops[i]? = some ops[i] := Array.getElem?_eq_getElem hi
 generalize ops[i] = o at ho
 have hS := hstep i o ho s L w' hC hL ha hdc
 have hW := wanted_rgF (L := L) (vs := vs s) hn hg ho ha
 cases c : wantV (vs s) o with
 | false =>
  rw [c] at hS hW
  obtain ⟨e, hK⟩ := hS
  refine i_not ho hW ⟨s, ?_, hK⟩
  rw [← rgF_put hn ho, ← e]
 | true =>
  rw [c] at hS hW
  have hS : stepW P o (view ops (vs s) a i) (fun u w' => ∃ s', (∀ j, L j = true → vs s j = vs s' j) ∧ u = vs s' i ∧ C s' (upd L i) w') w' := hS
  refine i_wp ho hW ?_
  have hns : ∀ cs b, o.op ≠ .select cs b := fun cs b e => by
   unfold noSel at hsel
   rw [Array.all_eq_true] at hsel
   have := hsel i hi
   rw [Array.getElem?_eq_getElem hi] at ho
   injection ho with ho
   rw [ho, e] at this
   cases this
  have ee : execOp (rgF ops (vs s) a L).eval o = execOp (view ops (vs s) a i) o := exec_congr hns fun x hx => view_eq hn hdep ho hL ha hdc hx
  have hput : ∀ {u : Value} {w3 : World}, (∃ s', (∀ j, L j = true → vs s j = vs s' j) ∧ u = vs s' i ∧ C s' (upd L i) w3) → ∃ s', (rgF ops (vs s) a L).put o.dst u = rgF ops (vs s') a (upd L i) ∧ C s' (upd L i) w3 := fun ⟨s', h1, h2, h3⟩ => by
   refine ⟨s', ?_, h3⟩
   rw [rgF_agree h1, h2]
   exact rgF_put hn ho
  unfold Oper.wp
  rw [ee]
  unfold stepW at hS
  revert hS
  generalize (execOp (view ops (vs s) a i) o).run P w' = r
  intro hS
  cases r with
  | halt x w2 => exact False.elim hS
  | ok n w2 =>
   cases n <;> first | exact False.elim hS | skip
   case value u => exact hput hS
   case skip => exact hput hS
   case enter f args =>
    exact Calls.mono hS fun e w3 h => by
     obtain ⟨u, rfl, hK⟩ := h
     exact hput hK
   case row row args => exact Rows.mono hS fun u w3 h => hput h
theorem region_holes {id : Nat} (vs : σ → Nat → Value) (C : σ → (Nat → Bool) → World → Prop) (s0 : σ) (hm : P.follows .mixedOrders = true) (hd : dag ops = true) (hn : rgOnce ops a.tmps.size = true) (hdep : depsOk ops = true) (hg : guardsOk ops = true) (hsel : noSel ops = true) (h0 : C s0 (fun _ => false) w.drew)
 (hstep : ∀ i o, ops[i]? = some o → ∀ s L w, C s L w → L i = false → (∀ j ∈ afters ops i, L j = true) → (∀ i, L i = true → ∀ j ∈ afters ops i, L j = true) → if wantV (vs s) o then stepW P o (view ops (vs s) a i) (fun u w' => ∃ s', (∀ j, L j = true → vs s j = vs s' j) ∧ u = vs s' i ∧ C s' (upd L i) w') w else undef = vs s i ∧ C s (upd L i) w)
 (hend : ∀ s L w, C s L w → (∀ i, i < ops.size → L i = true) → Q .normal (rgF ops (vs s) a fun _ => true) w) : (Code.region id ops true).wp P Q a w := by
 refine wp_region_inv_dc (I := fun L a' w' => ∃ s, a' = rgF ops (vs s) a L ∧ C s L w') hm hd ⟨s0, rgF_none.symm, h0⟩ ?_ ?_
 ·
  rintro i hi L a' w' ⟨s, ea, hC⟩ hL ha hdc
  subst ea
  exact step_holes vs C hn hdep hg hsel hstep hi hC hL ha hdc
 ·
  rintro L a' w' ⟨s, ea, hC⟩ hall
  rw [ea, rgF_all (L' := fun _ => true) hall]
  exact hend s L w' hC hall
theorem region_holes_lit {id : Nat} (vs : σ → Nat → Value) (C : σ → (Nat → Bool) → World → Prop) (s0 : σ) (ht : textOk ops = true) (hn : rgOnce ops a.tmps.size = true) (hdep : depsOk ops = true) (hg : guardsOk ops = true) (hsel : noSel ops = true) (h0 : C s0 (fun _ => false) w)
 (hstep : ∀ i o, ops[i]? = some o → ∀ s L w, C s L w → L i = false → (∀ j ∈ afters ops i, L j = true) → (∀ i, L i = true → ∀ j ∈ afters ops i, L j = true) → if wantV (vs s) o then stepW P o (view ops (vs s) a i) (fun u w' => ∃ s', (∀ j, L j = true → vs s j = vs s' j) ∧ u = vs s' i ∧ C s' (upd L i) w') w else undef = vs s i ∧ C s (upd L i) w)
 (hend : ∀ s L w, C s L w → (∀ i, i < ops.size → L i = true) → Q .normal (rgF ops (vs s) a fun _ => true) w) : (Code.region id ops false).wp P Q a w := by
 unfold textOk at ht
 rw [List.all_eq_true] at ht
 have haft : ∀ k, ∀ j ∈ afters ops k, j < k := fun k j hj => by
  by_cases c : k < ops.size
  ·
   have q := ht k (List.mem_range.2 c)
   rw [List.all_eq_true] at q
   simpa using q j hj
  ·
   have e : ops[k]? = none := Array.getElem?_eq_none (by omega)
   unfold afters at hj
   rw [e] at hj
   simp at hj
 refine wp_region ?_
 rw [List.range_eq_range']
 have key : ∀ m k s w, k + m = ops.size → C s (fun j => decide (j < k)) w → wpOps P ops Q (List.range' k m) (rgF ops (vs s) a fun j => decide (j < k)) w := by
  intro m
  induction m with
  | zero =>
   intro k s w hk hC
   show Q .normal _ w
   rw [rgF_all (L' := fun _ => true) (fun i hi => by simp; omega)]
   exact hend s _ w hC fun i hi => by simp; omega
  | succ m ih =>
   intro k s w hk hC
   rw [List.range'_succ, wpOps_cons]
   refine wpOp_mono (fun a' w' hq => ?_) (step_holes vs C hn hdep hg hsel hstep (by omega) hC (by simp) (fun j hj => by simpa using haft k j hj) (fun i hi j hj => by have := haft i j hj; simp at hi ⊢; omega))
   obtain ⟨s', rfl, hq⟩ := hq
   rw [upd_lt] at hq ⊢
   exact ih (k + 1) s' w' (by omega) hq
 have := key ops.size 0 s0 w (by omega) (by simpa using h0)
 have e : rgF ops (vs s0) a (fun j => decide (j < 0)) = a := by
  rw [show (fun j => decide (j < 0)) = fun _ : Nat => false from by funext j; simp]
  exact rgF_none
 rw [e] at this
 exact this
end
end
section
open Go.RowKit
section
variable {P : Program} {o : Oper} {w w' : World} {ρ : Operand → Value} {K : Value → World → Prop} {x y : Operand} {ty : TypeId} {p : Addr} {v : Value} {cs : Array Value}
theorem stepW_val (h : (execOp ρ o).run P w = .ok (.value v) w') (hK : K v w') : stepW P o ρ K w := by
 unfold stepW
 rw [h]
 exact hK
theorem stepW_call {f : FuncId} {args : Array Value} (h : (execOp ρ o).run P w = .ok (.enter f args) w) (hc : Calls P f args w fun e w'' => ∃ u, e = .returned u ∧ K u w'') : stepW P o ρ K w := by
 unfold stepW
 rw [h]
 exact hc
theorem stepW_load (ho : o.op = .load ty x) (hx : ρ x = .pointer (some p)) (hl : (Instr.loadAt ty (.pointer (some p))).run P w = .ok v w) (hK : K v w) : stepW P o ρ K w := by
 refine stepW_val (w' := w) (v := v) ?_ hK
 unfold execOp
 simp only [ho, hx, Sem.run_bind, Sem.run_pure, hl, Result.andThen]
theorem stepW_store (ho : o.op = .store ty x y) (hx : ρ x = .pointer (some p)) (hy : ρ y = v) (hs : (Instr.storeAt ty (.pointer (some p)) v).run P w = .ok () w') (hK : K undef w') : stepW P o ρ K w := by
 unfold stepW execOp
 simp only [ho, hx, hy, Sem.run_bind, Sem.run_pure, hs, Result.andThen]
 exact hK
end
end
section
open Go.RowKit
section
variable {σ : Type}
def cellsW (ops : Array Oper) (L : Nat → Bool) (w : World) (s : σ) (vs : Nat → Value) : List (Nat × (σ → Addr)) → Prop | [] => True | (i, p) :: l => ((∀ j ∈ afters ops i, L j = true) → w.cell? (p s) = some (vs i)) ∧ cellsW ops L w s vs l
variable {P : Program} {ops : Array Oper} {a : Act} {L : Nat → Bool} {w : World}
theorem cellsW_mem {s : σ} {vs : Nat → Value} : ∀ {l : List (Nat × (σ → Addr))} (h : cellsW ops L w s vs l) {e : Nat × (σ → Addr)}, e ∈ l → (∀ j ∈ afters ops e.1, L j = true) → w.cell? (e.2 s) = some (vs e.1)
 | (j, p) :: l, h, e, he => by
  rcases List.mem_cons.1 he with rfl | he
  ·
   exact h.1
  ·
   exact cellsW_mem h.2 he
theorem steps_of3 (vs : σ → Nat → Value) (C : σ → (Nat → Bool) → World → Prop) (ps qs : List Nat) (ls : List (Nat × (σ → Addr))) (rs : List Nat)
 (hcov : (List.range ops.size).all (fun i => ps.contains i || qs.contains i || (ls.map Prod.fst).contains i || rs.contains i) = true)
 (hpw : ∀ s, ps.map (wantI ops (vs s)) = ps.map fun _ => true) (hp : ∀ s w, ps.map (outV P ops (vs s) a w) = ps.map (ansV (vs s) w))
 (hqw : ∀ s, qs.map (wantI ops (vs s)) = qs.map fun _ => false) (hq : ∀ s, qs.map (vs s) = qs.map fun _ => undef)
 (hlw : ∀ s, ls.map (fun e => wantI ops (vs s) e.1) = ls.map fun _ => true) (hl : ∀ s, ls.map (fun e => ldAt P ops (vs s) a e.1) = ls.map fun e => (true, .pointer (some (e.2 s))))
 (hc : ∀ s L w, C s L w → cellsW ops L w s (vs s) ls)
 (hC : ∀ i, i ∈ ps ∨ i ∈ qs ∨ i ∈ ls.map Prod.fst → ∀ s L w, C s L w → C s (upd L i) w)
 (hr : ∀ i, i ∈ rs → ∀ s L w, C s L w → L i = false → (∀ j ∈ afters ops i, L j = true) → (∀ i, L i = true → ∀ j ∈ afters ops i, L j = true) → wantI ops (vs s) i = true ∧ ∀ o, ops[i]? = some o → stepW P o (view ops (vs s) a i) (fun u w' => ∃ s', (∀ j, L j = true → vs s j = vs s' j) ∧ u = vs s' i ∧ C s' (upd L i) w') w) :
 ∀ i o, ops[i]? = some o → ∀ s L w, C s L w → L i = false → (∀ j ∈ afters ops i, L j = true) → (∀ i, L i = true → ∀ j ∈ afters ops i, L j = true) → if wantV (vs s) o then stepW P o (view ops (vs s) a i) (fun u w' => ∃ s', (∀ j, L j = true → vs s j = vs s' j) ∧ u = vs s' i ∧ C s' (upd L i) w') w else undef = vs s i ∧ C s (upd L i) w := by
 intro i o ho s L w hcc hL ha hdc
 rw [List.all_eq_true] at hcov
 have q := hcov i (List.mem_range.2 (Array.getElem?_eq_some_iff.1 ho).1)
 have ew : wantI ops (vs s) i = wantV (vs s) o := by unfold wantI; rw [ho]
 rw [Bool.or_eq_true, Bool.or_eq_true, Bool.or_eq_true, List.contains_iff_mem, List.contains_iff_mem, List.contains_iff_mem, List.contains_iff_mem] at q
 rcases q with ((q | q) | q) | q
 ·
  have e1 : wantI ops (vs s) i = true := rg_map_mem (hpw s) q
  have e2 := rg_map_mem (hp s w) q
  rw [ew] at e1
  rw [if_pos e1]
  unfold outV ansV at e2
  rw [ho] at e2
  exact stepW_val e2 ⟨s, fun _ _ => rfl, rfl, hC i (.inl q) s L w hcc⟩
 ·
  have e1 : wantI ops (vs s) i = false := rg_map_mem (hqw s) q
  have e2 : vs s i = undef := rg_map_mem (hq s) q
  rw [ew] at e1
  rw [e1]
  exact ⟨e2.symm, hC i (.inr (.inl q)) s L w hcc⟩
 ·
  obtain ⟨e, he, rfl⟩ := List.mem_map.1 q
  have e1 : wantI ops (vs s) e.1 = true := rg_map_mem (hlw s) he
  rw [ew] at e1
  rw [if_pos e1]
  have q2 := rg_map_mem (hl s) he
  unfold ldAt at q2
  rw [ho] at q2
  have q2 : (match o.op with | .load ty x => (plainT (P.underlying ty), view ops (vs s) a e.1 x) | _ => (false, undef)) = (true, .pointer (some (e.2 s))) := q2
  split at q2
  ·
   next ty x hop =>
   injection q2 with q3 q4
   exact stepW_load hop q4 (run_loadAt_cell q3 (cellsW_mem (hc s L w hcc) he ha)) ⟨s, fun _ _ => rfl, rfl, hC e.1 (.inr (.inr q)) s L w hcc⟩
  ·
   injection q2 with q3 q4
   cases q3
 ·
  obtain ⟨e1, h⟩ := hr i q s L w hcc hL ha hdc
  rw [ew] at e1
  rw [if_pos e1]
  exact h o ho
end
end
section
open Go.RowKit
def seen (ρ : Operand → Value) : List (Nat × Value) → Prop | [] => True | (t, v) :: l => ρ (.tmp t) = v ∧ seen ρ l
def vsOf (l : List Value) (i : Nat) : Value := l.toArray.getD i undef
def putsZ : List Oper → List Value → Array Value → Array Value
 | ⟨some d, _, _, _, _, _⟩ :: l, v :: vs, t => putsZ l vs (t.setIfInBounds d v)
 | ⟨none, _, _, _, _, _⟩ :: l, _ :: vs, t => putsZ l vs t
 | _, _, t => t
section
variable {P : Program} {ops : Array Oper} {a : Act} {L : Nat → Bool} {i : Nat} {o : Oper} {w : World} {Q : Exit → Act → World → Prop} {σ : Type}
theorem getD_other {A B : Array Value} {i j : Nat} (h : A.setIfInBounds i undef = B.setIfInBounds i undef) (hj : j ≠ i) : A.getD j undef = B.getD j undef := by
 have q := congrArg (fun z => z[j]?) h
 simp only [Array.getElem?_setIfInBounds_ne (Ne.symm hj)] at q
 rw [Array.getD_eq_getD_getElem?, Array.getD_eq_getD_getElem?, q]
theorem vs_other {A B : List Value} (h : A.set i undef = B.set i undef) (hL : L i = false) : ∀ j, L j = true → vsOf A j = vsOf B j := fun j hj =>
 getD_other (i := i) (by simpa using h) fun e => by rw [e, hL] at hj; cases hj
theorem putsZ_some {d : Nat} {op ty pos aft g l v vs t} : putsZ (⟨some d, op, ty, pos, aft, g⟩ :: l) (v :: vs) t = putsZ l vs (t.setIfInBounds d v) := rfl
theorem putsZ_none {op ty pos aft g l v vs t} : putsZ (⟨none, op, ty, pos, aft, g⟩ :: l) (v :: vs) t = putsZ l vs t := rfl
theorem putsZ_nil {t vs} : putsZ [] vs t = t := by cases vs <;> rfl
theorem putsZ_size : ∀ (os : List Oper) (vs : List Value) (t : Array Value), (putsZ os vs t).size = t.size
 | [], vs, t => by rw [putsZ_nil]
 | _ :: _, [], t => by unfold putsZ; simp
 | ⟨some d, _, _, _, _, _⟩ :: l, v :: vs, t => by rw [putsZ_some, putsZ_size l vs]; simp
 | ⟨none, _, _, _, _, _⟩ :: l, v :: vs, t => by rw [putsZ_none, putsZ_size l vs]
theorem putsZ_at : ∀ (os : List Oper) (vs : List Value) (t : Array Value) (k : Nat), vs.length = os.length → (∀ (i j : Nat) (o o' : Oper) (d : Nat), os[i]? = some o → os[j]? = some o' → o.dst = some d → o'.dst = some d → i = j) → k < t.size →
 (putsZ os vs t)[k]? = match (List.range os.length).find? (fun i => (os[i]?.bind (·.dst)) == some k) with | some i => vs[i]? | none => t[k]?
 | [], [], t, k, h, hu, hk => by rw [putsZ_nil]; rfl
 | o :: os, v :: vs, t, k, h, hu, hk => by
  have hu' : ∀ (i j : Nat) (o o' : Oper) (d : Nat), os[i]? = some o → os[j]? = some o' → o.dst = some d → o'.dst = some d → i = j := fun i j o1 o2 d h1 h2 h3 h4 => by
   have := hu (i + 1) (j + 1) o1 o2 d (by simpa using h1) (by simpa using h2) h3 h4
   omega
  have h' : vs.length = os.length := by simpa using h
  have er : (List.range (o :: os).length).find? (fun i => ((o :: os)[i]?.bind (·.dst)) == some k) = if o.dst == some k then some 0 else ((List.range os.length).find? (fun i => (os[i]?.bind (·.dst)) == some k)).map (· + 1) := by
   rw [List.length_cons, List.range_succ_eq_map, List.find?_cons]
   have e0 : ((o :: os)[0]?.bind (·.dst) == some k) = (o.dst == some k) := rfl
   rw [e0]
   cases c : o.dst == some k with
   | true => simp
   | false =>
    simp only [Bool.false_eq_true, if_false]
    rw [List.find?_map]
    rfl
  rw [er]
  obtain ⟨dst, op, ty, pos, aft, g⟩ := o
  cases dst with
  | none =>
   rw [putsZ_none, putsZ_at os vs t k h' hu' hk]
   rw [if_neg (by simp)]
   cases (List.range os.length).find? (fun i => (os[i]?.bind (·.dst)) == some k) <;> simp
  | some d =>
   rw [putsZ_some, putsZ_at os vs _ k h' hu' (by simpa using hk)]
   by_cases c : d = k
   ·
    subst c
    rw [if_pos (by simp)]
    cases q : (List.range os.length).find? (fun i => (os[i]?.bind (·.dst)) == some d) with
    | none => simp [hk]
    | some i =>
     exfalso
     have q2 := List.find?_some q
     rw [beq_iff_eq] at q2
     cases q3 : os[i]? with
     | none => rw [q3] at q2; cases q2
     | some o2 =>
      rw [q3] at q2
      have := hu 0 (i + 1) _ o2 d rfl (by simpa using q3) rfl q2
      omega
   ·
    rw [if_neg (by simpa using c), Array.getElem?_setIfInBounds_ne c]
    cases (List.range os.length).find? (fun i => (os[i]?.bind (·.dst)) == some k) <;> simp
theorem rgF_puts {vals : List Value} (hn : rgOnce ops a.tmps.size = true) (hlen : vals.length = ops.size) : rgF ops (vsOf vals) a (fun _ => true) = { a with tmps := putsZ ops.toList vals a.tmps } := by
 unfold rgF
 have e : rgT ops (vsOf vals) a.tmps (fun _ => true) = putsZ ops.toList vals a.tmps := by
  refine Array.ext_getElem? fun k => ?_
  rw [rgT_at]
  by_cases hk : k < a.tmps.size
  ·
   have hu : ∀ (i j : Nat) (o o' : Oper) (d : Nat), ops.toList[i]? = some o → ops.toList[j]? = some o' → o.dst = some d → o'.dst = some d → i = j := fun i j o o' d h1 h2 h3 h4 => by
    have q1 := (rgOnce_at hn (i := i) (by rw [← Array.getElem?_toList]; exact h1) h3).1
    have q2 := (rgOnce_at hn (i := j) (by rw [← Array.getElem?_toList]; exact h2) h4).1
    rw [q1] at q2
    exact Option.some.inj q2
   rw [putsZ_at _ _ _ k (by simpa using hlen) hu hk, Array.getElem?_eq_getElem hk]
   have ew : (List.range ops.toList.length).find? (fun i => (ops.toList[i]?.bind (·.dst)) == some k) = wrOf ops k := by
    unfold wrOf
    simp
   rw [ew]
   cases c : wrOf ops k with
   | none => rfl
   | some i =>
    obtain ⟨o, h1, h2⟩ := wr_some c
    have hi : i < vals.length := by rw [hlen]; exact (Array.getElem?_eq_some_iff.1 h1).1
    show some (vsOf vals i) = vals[i]?
    unfold vsOf
    rw [List.getElem?_eq_getElem hi, Array.getD_eq_getD_getElem?]
    simp [hi]
  ·
   rw [Array.getElem?_eq_none (by omega), Array.getElem?_eq_none (by rw [putsZ_size]; omega)]
   rfl
 rw [e]
def rgOk (P : Program) (ops : Array Oper) (n : Nat) : Bool := P.follows .mixedOrders && dag ops && rgOnce ops n && depsOk ops && guardsOk ops && noSel ops
def rgOkL (ops : Array Oper) (n : Nat) : Bool := textOk ops && rgOnce ops n && depsOk ops && guardsOk ops && noSel ops
theorem rg {id : Nat} (vals : σ → List Value) (C : σ → (Nat → Bool) → World → Prop) (s0 : σ) (ps qs : List Nat) (ls : List (Nat × (σ → Addr))) (rs : List Nat) (hok : rgOk P ops a.tmps.size = true) (hlen : ∀ s, (vals s).length = ops.size)
 (hcov : (List.range ops.size).all (fun i => ps.contains i || qs.contains i || (ls.map Prod.fst).contains i || rs.contains i) = true)
 (hpw : ∀ s, ps.map (wantI ops (vsOf (vals s))) = ps.map fun _ => true) (hp : ∀ s w, ps.map (outV P ops (vsOf (vals s)) a w) = ps.map (ansV (vsOf (vals s)) w))
 (hqw : ∀ s, qs.map (wantI ops (vsOf (vals s))) = qs.map fun _ => false) (hq : ∀ s, qs.map (vsOf (vals s)) = qs.map fun _ => undef)
 (hlw : ∀ s, ls.map (fun e => wantI ops (vsOf (vals s)) e.1) = ls.map fun _ => true) (hl : ∀ s, ls.map (fun e => ldAt P ops (vsOf (vals s)) a e.1) = ls.map fun e => (true, .pointer (some (e.2 s))))
 (h0 : C s0 (fun _ => false) w.drew)
 (hc : ∀ s L w, C s L w → cellsW ops L w s (vsOf (vals s)) ls)
 (hC : ∀ i, i ∈ ps ∨ i ∈ qs ∨ i ∈ ls.map Prod.fst → ∀ s L w, C s L w → C s (upd L i) w)
 (hr : ∀ i, i ∈ rs → ∀ s L w, C s L w → L i = false → (∀ j ∈ afters ops i, L j = true) → (∀ i, L i = true → ∀ j ∈ afters ops i, L j = true) → wantI ops (vsOf (vals s)) i = true ∧ ∀ o, ops[i]? = some o → stepW P o (view ops (vsOf (vals s)) a i) (fun u w' => ∃ s', (∀ j, L j = true → vsOf (vals s) j = vsOf (vals s') j) ∧ u = vsOf (vals s') i ∧ C s' (upd L i) w') w)
 (hend : ∀ s L w, C s L w → (∀ i, i < ops.size → L i = true) → Q .normal { a with tmps := putsZ ops.toList (vals s) a.tmps } w) : (Code.region id ops true).wp P Q a w := by
 unfold rgOk at hok
 simp only [Bool.and_eq_true] at hok
 obtain ⟨⟨⟨⟨⟨k1, k2⟩, k3⟩, k4⟩, k5⟩, k6⟩ := hok
 exact region_holes (fun s => vsOf (vals s)) C s0 k1 k2 k3 k4 k5 k6 h0 (steps_of3 _ C ps qs ls rs hcov hpw hp hqw hq hlw hl hc hC hr) fun s L w h1 h2 => by rw [rgF_puts k3 (hlen s)]; exact hend s L w h1 h2
theorem rgl {id : Nat} (vals : σ → List Value) (C : σ → (Nat → Bool) → World → Prop) (s0 : σ) (ps qs : List Nat) (ls : List (Nat × (σ → Addr))) (rs : List Nat) (hok : rgOkL ops a.tmps.size = true) (hlen : ∀ s, (vals s).length = ops.size)
 (hcov : (List.range ops.size).all (fun i => ps.contains i || qs.contains i || (ls.map Prod.fst).contains i || rs.contains i) = true)
 (hpw : ∀ s, ps.map (wantI ops (vsOf (vals s))) = ps.map fun _ => true) (hp : ∀ s w, ps.map (outV P ops (vsOf (vals s)) a w) = ps.map (ansV (vsOf (vals s)) w))
 (hqw : ∀ s, qs.map (wantI ops (vsOf (vals s))) = qs.map fun _ => false) (hq : ∀ s, qs.map (vsOf (vals s)) = qs.map fun _ => undef)
 (hlw : ∀ s, ls.map (fun e => wantI ops (vsOf (vals s)) e.1) = ls.map fun _ => true) (hl : ∀ s, ls.map (fun e => ldAt P ops (vsOf (vals s)) a e.1) = ls.map fun e => (true, .pointer (some (e.2 s))))
 (h0 : C s0 (fun _ => false) w)
 (hc : ∀ s L w, C s L w → cellsW ops L w s (vsOf (vals s)) ls)
 (hC : ∀ i, i ∈ ps ∨ i ∈ qs ∨ i ∈ ls.map Prod.fst → ∀ s L w, C s L w → C s (upd L i) w)
 (hr : ∀ i, i ∈ rs → ∀ s L w, C s L w → L i = false → (∀ j ∈ afters ops i, L j = true) → (∀ i, L i = true → ∀ j ∈ afters ops i, L j = true) → wantI ops (vsOf (vals s)) i = true ∧ ∀ o, ops[i]? = some o → stepW P o (view ops (vsOf (vals s)) a i) (fun u w' => ∃ s', (∀ j, L j = true → vsOf (vals s) j = vsOf (vals s') j) ∧ u = vsOf (vals s') i ∧ C s' (upd L i) w') w)
 (hend : ∀ s L w, C s L w → (∀ i, i < ops.size → L i = true) → Q .normal { a with tmps := putsZ ops.toList (vals s) a.tmps } w) : (Code.region id ops false).wp P Q a w := by
 unfold rgOkL at hok
 simp only [Bool.and_eq_true] at hok
 obtain ⟨⟨⟨⟨k2, k3⟩, k4⟩, k5⟩, k6⟩ := hok
 exact region_holes_lit (fun s => vsOf (vals s)) C s0 k2 k3 k4 k5 k6 h0 (steps_of3 _ C ps qs ls rs hcov hpw hp hqw hq hlw hl hc hC hr) fun s L w h1 h2 => by rw [rgF_puts k3 (hlen s)]; exact hend s L w h1 h2
end
end
section
open Go.RowKit
section
variable {P : Program} {ops : Array Oper} {a : Act} {L : Nat → Bool} {i : Nat} {o : Oper} {w w' : World} {Q : Exit → Act → World → Prop} {σ : Type}
theorem stepW_seeG {ρ : Operand → Value} {K : Value → World → Prop} (l : List (Nat × Value)) (hl : l.map (fun p => ρ (.tmp p.1)) = l.map (fun p => p.2)) (hc : ∀ v, ρ (.const v) = v) (hf : ∀ f, ρ (.func f) = .func (.func f) #[] #[]) (hg : ∀ g, ρ (.global g) = .pointer (some ⟨g, 0, none⟩))
 (h : ∀ ρ' : Operand → Value, (∀ v, ρ' (.const v) = v) → (∀ f, ρ' (.func f) = .func (.func f) #[] #[]) → (∀ g, ρ' (.global g) = .pointer (some ⟨g, 0, none⟩)) → seen ρ' l → stepW P o ρ' K w) : stepW P o ρ K w := by
 refine h ρ hc hf hg ?_
 clear h
 induction l with
 | nil => trivial
 | cons a l ih =>
  simp only [List.map_cons, List.cons.injEq] at hl
  exact ⟨hl.1, ih hl.2⟩
def RsAll (P : Program) (ops : Array Oper) (vals : σ → List Value) (C : σ → (Nat → Bool) → World → Prop) : List (Nat × (σ → List (Nat × Value))) → Prop
 | [] => True
 | (i, us) :: l => (∀ s L w, C s L w → L i = false → (∀ j ∈ afters ops i, L j = true) → (∀ i, L i = true → ∀ j ∈ afters ops i, L j = true) → ∀ ρ : Operand → Value, (∀ v, ρ (.const v) = v) → (∀ f, ρ (.func f) = .func (.func f) #[] #[]) → (∀ g, ρ (.global g) = .pointer (some ⟨g, 0, none⟩)) → seen ρ (us s) → ∀ o, ops[i]? = some o →
  stepW P o ρ (fun u w' => ∃ s', (∀ j, L j = true → vsOf (vals s) j = vsOf (vals s') j) ∧ u = vsOf (vals s') i ∧ C s' (upd L i) w') w) ∧ RsAll P ops vals C l
theorem RsAll.at {vals : σ → List Value} {C : σ → (Nat → Bool) → World → Prop} : ∀ {rs : List (Nat × (σ → List (Nat × Value)))} (h : RsAll P ops vals C rs) {i us}, (i, us) ∈ rs → ∀ s L w, C s L w → L i = false → (∀ j ∈ afters ops i, L j = true) → (∀ i, L i = true → ∀ j ∈ afters ops i, L j = true) → ∀ ρ : Operand → Value, (∀ v, ρ (.const v) = v) → (∀ f, ρ (.func f) = .func (.func f) #[] #[]) → (∀ g, ρ (.global g) = .pointer (some ⟨g, 0, none⟩)) → seen ρ (us s) → ∀ o, ops[i]? = some o →
 stepW P o ρ (fun u w' => ∃ s', (∀ j, L j = true → vsOf (vals s) j = vsOf (vals s') j) ∧ u = vsOf (vals s') i ∧ C s' (upd L i) w') w
 | (j, u2) :: l, h, i, us, hm => by
  rcases List.mem_cons.1 hm with e | hm
  ·
   cases e; exact h.1
  ·
   exact RsAll.at h.2 hm
def psOf (n : Nat) (qs ls rs : List Nat) : List Nat := (List.range n).filter fun i => !(qs.contains i || ls.contains i || rs.contains i)
theorem rk {id : Nat} {dr : Bool} (vals : σ → List Value) (C : σ → (Nat → Bool) → World → Prop) (s0 : σ) (qs : List Nat) (ls : List (Nat × (σ → Addr))) (rs : List (Nat × (σ → List (Nat × Value)))) (D : List Nat)
 (h0 : C s0 (fun _ => false) (bif dr then w.drew else w))
 (hc : ∀ s L w, C s L w → cellsW ops L w s (vsOf (vals s)) ls)
 (hD : ∀ s L L' w, (∀ k ∈ D, L k = L' k) → C s L w → C s L' w)
 (hr : RsAll P ops vals C rs)
 (hend : ∀ s L w, C s L w → (∀ i, i < ops.size → L i = true) → Q .normal { a with tmps := putsZ ops.toList (vals s) a.tmps } w)
 (hok : (bif dr then rgOk P ops a.tmps.size else rgOkL ops a.tmps.size) = true := by kernel_rfl)
 (hlen : ∀ s, (vals s).length = ops.size := by intros; rfl)
 (hdis : (D.all fun k => (rs.map Prod.fst).contains k && !(qs ++ ls.map Prod.fst).contains k) = true := by kernel_rfl)
 (hpw : ∀ s, (psOf ops.size qs (ls.map Prod.fst) (rs.map Prod.fst)).map (wantI ops (vsOf (vals s))) = (psOf ops.size qs (ls.map Prod.fst) (rs.map Prod.fst)).map fun _ => true := by intros; kernel_rfl)
 (hp : ∀ s w, (psOf ops.size qs (ls.map Prod.fst) (rs.map Prod.fst)).map (outV P ops (vsOf (vals s)) a w) = (psOf ops.size qs (ls.map Prod.fst) (rs.map Prod.fst)).map (ansV (vsOf (vals s)) w) := by intros; kernel_rfl)
 (hqw : ∀ s, qs.map (wantI ops (vsOf (vals s))) = qs.map fun _ => false := by intros; kernel_rfl) (hq : ∀ s, qs.map (vsOf (vals s)) = qs.map fun _ => undef := by intros; kernel_rfl)
 (hlw : ∀ s, ls.map (fun e => wantI ops (vsOf (vals s)) e.1) = ls.map fun _ => true := by intros; kernel_rfl) (hl : ∀ s, ls.map (fun e => ldAt P ops (vsOf (vals s)) a e.1) = ls.map fun e => (true, .pointer (some (e.2 s))) := by intros; kernel_rfl)
 (hu : ∀ s, rs.map (fun e => (wantI ops (vsOf (vals s)) e.1, (e.2 s).map fun p => view ops (vsOf (vals s)) a e.1 (.tmp p.1))) = rs.map fun e => (true, (e.2 s).map fun p => p.2) := by intros; kernel_rfl) : (Code.region id ops dr).wp P Q a w := by
 have hcov : (List.range ops.size).all (fun i => (psOf ops.size qs (ls.map Prod.fst) (rs.map Prod.fst)).contains i || qs.contains i || (ls.map Prod.fst).contains i || (rs.map Prod.fst).contains i) = true := by
  rw [List.all_eq_true]
  intro i hi
  unfold psOf
  cases c : (qs.contains i || (ls.map Prod.fst).contains i || (rs.map Prod.fst).contains i) with
  | true =>
   simp only [Bool.or_eq_true] at c ⊢
   rcases c with (c | c) | c
   ·
    exact .inl (.inl (.inr c))
   ·
    exact .inl (.inr c)
   ·
    exact .inr c
  | false =>
   simp only [Bool.or_eq_true]
   refine .inl (.inl (.inl ?_))
   rw [List.contains_iff_mem, List.mem_filter]
   exact ⟨hi, by rw [c]; rfl⟩
 rw [List.all_eq_true] at hdis
 have hC : ∀ i, i ∈ psOf ops.size qs (ls.map Prod.fst) (rs.map Prod.fst) ∨ i ∈ qs ∨ i ∈ ls.map Prod.fst → ∀ s L w, C s L w → C s (upd L i) w := by
  intro i hi s L w h
  refine hD s L (upd L i) w (fun k hk => ?_) h
  have q := hdis k hk
  rw [Bool.and_eq_true] at q
  have hne : ¬ k = i := by
   rintro rfl
   rcases hi with hi | hi
   ·
    unfold psOf at hi
    rw [List.mem_filter] at hi
    have q2 := hi.2
    rw [q.1] at q2
    simp at q2
   ·
    have q2 := q.2
    have hi : k ∈ qs ++ ls.map Prod.fst := List.mem_append.2 hi
    rw [← List.contains_iff_mem] at hi
    rw [hi] at q2
    cases q2
  unfold upd
  rw [if_neg hne]
 have hr2 : ∀ i, i ∈ rs.map Prod.fst → ∀ s L w, C s L w → L i = false → (∀ j ∈ afters ops i, L j = true) → (∀ i, L i = true → ∀ j ∈ afters ops i, L j = true) → wantI ops (vsOf (vals s)) i = true ∧ ∀ o, ops[i]? = some o → stepW P o (view ops (vsOf (vals s)) a i) (fun u w' => ∃ s', (∀ j, L j = true → vsOf (vals s) j = vsOf (vals s') j) ∧ u = vsOf (vals s') i ∧ C s' (upd L i) w') w := by
  intro i hi s L w h1 h2 h3 h4
  obtain ⟨⟨i, us⟩, he, rfl⟩ := List.mem_map.1 hi
  have q := rg_map_mem (hu s) he
  simp only [Prod.mk.injEq] at q
  exact ⟨q.1, fun o ho => stepW_seeG (us s) q.2 (fun _ => rfl) (fun _ => rfl) (fun _ => rfl) fun ρ a1 a2 a4 a3 => hr.at he s L w h1 h2 h3 h4 ρ a1 a2 a4 a3 o ho⟩
 cases dr with
 | true => exact rg vals C s0 _ qs ls (rs.map Prod.fst) hok hlen hcov hpw hp hqw hq hlw hl h0 hc hC hr2 hend
 | false => exact rgl vals C s0 _ qs ls (rs.map Prod.fst) hok hlen hcov hpw hp hqw hq hlw hl h0 hc hC hr2 hend
end
section
variable {P : Program} {o : Oper} {w w' : World} {σ : Type} {s : σ} {L : Nat → Bool} {i : Nat} {ρ : Operand → Value} {vals : σ → List Value} {C : σ → (Nat → Bool) → World → Prop}
theorem l_var (ty : TypeId) (x : Operand) (ho : o.op = .load ty x) (g : Nat) (hx : ρ x = .pointer (some ⟨g, 0, none⟩)) (t : TypeId) (cs : Array Value) (d : TypeDesc) (hg : Blk w g cs t)
 (hu : P.underlying ty = some d) (hd : (match d with | .struct _ | .array _ _ => true | _ => false) = true) (hi : (P.info? ty).map (·.size) = some cs.size) : (execOp ρ o).run P w = .ok (.value (.agg cs)) w := by
 unfold execOp
 simp only [ho, hx, Instr.loadAt, Instr.sureAddr, Sem.run_bind, Sem.run_pure, Result.andThen_ok, run_loadVar_row w g t ty cs (0, 0) d hg hu hd hi]
theorem l_partof (ty : TypeId) (x : Operand) (ho : o.op = .load ty x) (g j : Nat) (hx : ρ x = .pointer (some ⟨g, j, none⟩)) (t : TypeId) (cs : Array Value) (part : List Value) (d : TypeDesc) (hg : Blk w g cs t) (hp : ∀ i v, part[i]? = some v → cs[j + i]? = some v)
 (hu : P.underlying ty = some d) (hd : d.isRow = true) (hi : (P.info? ty).map (·.size) = some part.length) : (execOp ρ o).run P w = .ok (.value (.agg part.toArray)) w := by
 unfold execOp
 have hr : w.rangeAt g j part := fun i v hv => by rw [hg.cell]; exact hp i v hv
 simp only [ho, hx, Instr.loadAt, Instr.sureAddr, Sem.run_bind, Sem.run_pure, Result.andThen_ok, run_loadVar_mid w g j ty part d hr hu hd hi]
theorem l_range (ty : TypeId) (x : Operand) (ho : o.op = .load ty x) (g j : Nat) (hx : ρ x = .pointer (some ⟨g, j, none⟩)) (arr : Array Value) (d : TypeDesc) (hr : w.rangeAt g j arr.toList)
 (hu : P.underlying ty = some d) (hd : d.isRow = true) (hi : (P.info? ty).map (·.size) = some arr.size) : (execOp ρ o).run P w = .ok (.value (.agg arr)) w := by
 unfold execOp
 simp only [ho, hx, Instr.loadAt, Instr.sureAddr, Sem.run_bind, Sem.run_pure, Result.andThen_ok, run_loadVar_mid w g j ty arr.toList d hr hu hd (by simpa using hi), Array.toArray_toList]
theorem l_build (t : TypeId) (parts : List (Nat × Operand)) (ho : o.op = .build t parts.toArray) (vals : List (Nat × Value)) (arr : Array Value)
 (hv : parts.map (fun x => (x.1, ρ x.2)) = vals) (hb : P.built t vals = some arr) : (execOp ρ o).run P w = .ok (.value (.agg arr)) w := by
 subst hv
 have e : (Array.map (fun x => (x.1, ρ x.2)) parts.toArray).toList = parts.map (fun x => (x.1, ρ x.2)) := by simp
 rw [← e] at hb
 unfold execOp
 simp only [ho, Sem.run_bind, run_build w t _ arr hb, Result.andThen_ok, Sem.run_pure]
theorem sw {K : Value → World → Prop} (v : Value) (h : (execOp ρ o).run P w = .ok (.value v) w') (hK : K v w') : stepW P o ρ K w := stepW_val h hK
theorem sc {K : Value → World → Prop} {B : World → Prop} (v : Value) (f : FuncId) (args : Array Value) (hcall : Calls P f args w fun e w2 => e = .returned v ∧ B w2) (h : (execOp ρ o).run P w = .ok (.enter f args) w) (hK : ∀ w2, B w2 → K v w2) : stepW P o ρ K w :=
 stepW_call h (hcall.mono fun _ w2 ⟨q1, hb⟩ => ⟨v, q1, hK w2 hb⟩)
theorem ss {K : Value → World → Prop} (ty : TypeId) (x y : Operand) (ho : o.op = .store ty x y) (p : Addr) (v : Value) (hx : ρ x = .pointer (some p)) (hy : ρ y = v) (hs : (Instr.storeAt ty (.pointer (some p)) v).run P w = .ok () (w.setCell p v)) (hK : K undef (w.setCell p v)) : stepW P o ρ K w :=
 stepW_store ho hx hy hs hK
theorem sr {K : Value → World → Prop} (ty : TypeId) (x y : Operand) (ho : o.op = .store ty x y) (g : Nat) (cells : Array Value) (hx : ρ x = .pointer (some ⟨g, 0, none⟩)) (hy : ρ y = .agg cells) (t : TypeId) (old : Array Value) (hg : w.heap[g]? = some (.cells old t (0, 0))) (hi : (P.info? ty).map (·.size) = some cells.size)
 (hold : old.size = cells.size) (h1 : cells.all (·.oneCell') = true) (hK : K undef (w.setRow g cells)) : stepW P o ρ K w := by
 unfold stepW execOp
 simp only [ho, hx, hy, Instr.storeAt, Instr.sureAddr, Sem.run_bind, Sem.run_pure, Result.andThen_ok, run_storeVar_row w g t ty old cells hg hi hold h1]
 exact hK
theorem sm {K : Value → World → Prop} (ty : TypeId) (x y : Operand) (ho : o.op = .store ty x y) (b j : Nat) (cells : Array Value) (hx : ρ x = .pointer (some ⟨b, j, none⟩)) (hy : ρ y = .agg cells) (ht : w.there b j cells.size) (hi : (P.info? ty).map (·.size) = some cells.size) (h1 : cells.all (·.oneCell') = true)
 (hK : K undef (w.setCells b j cells.toList)) : stepW P o ρ K w := by
 unfold stepW execOp
 simp only [ho, hx, hy, Instr.storeAt, Instr.sureAddr, Sem.run_bind, Sem.run_pure, Result.andThen_ok, run_storeVar_mid w b j ty cells ht hi h1]
 exact hK
end
end
end Go.Proofs.YteeinlbhcdpnnaaDoor
section
namespace Go.Proofs.YteeinlbhcdpnnaaDoor.Nums
def good (a n : Int) : Prop := 0 ≤ a ∧ a ≤ 63 ∧ 1 ≤ n ∧ n ≤ 64 - a
instance (a n : Int) : Decidable (good a n) := by unfold good; infer_instance
end Go.Proofs.YteeinlbhcdpnnaaDoor.Nums
end
namespace Go.Proofs.YteeinlbhcdpnnaaDoor
section
open Go.RowKit
end
section
open Go.RowKit
def Has (w : World) (g : Nat) (l : List Value) : Prop := ∀ j (hj : j < l.length), w.cell? ⟨g, j, none⟩ = some l[j] ∧ w.frozen? ⟨g, j, none⟩ = false
theorem Has.set {w : World} {g : Nat} {l : List Value} (h : Has w g l) (j : Nat) (u : Value) : Has (w.setCell ⟨g, j, none⟩ u) g (l.set j u) := by
 intro i hi
 have hi' : i < l.length := by simpa using hi
 obtain ⟨h1, h2⟩ := h i hi'
 refine ⟨?_, by simpa using h2⟩
 by_cases c : j = i
 ·
  subst c
  rw [World.cell?_setCell_same (w := w) (h := h1)]
  simp
 ·
  rw [World.cell?_setCell_other (w := w) (h := by simp only [ne_eq, Addr.mk.injEq, true_and, and_true]; omega), h1]
  simp [c]
theorem Has.other {w : World} {g : Nat} {l : List Value} (h : Has w g l) {a : Addr} (ha : a.block ≠ g) (u : Value) : Has (w.setCell a u) g l := by
 intro i hi
 obtain ⟨h1, h2⟩ := h i hi
 refine ⟨?_, by simpa using h2⟩
 rw [World.cell?_setCell_other (w := w) (h := by intro e; apply ha; rw [e]), h1]
theorem Has.below {w w' : World} {B g : Nat} {l : List Value} (h : Has w g l) (hb : Below B w w') (hg : g < B) : Has w' g l := by
 intro i hi
 obtain ⟨h1, h2⟩ := h i hi
 exact ⟨by rw [hb.cell (p := ⟨g, i, none⟩) hg, h1], by rw [hb.frozen (p := ⟨g, i, none⟩) hg, h2]⟩
theorem Has.drew {w : World} {g : Nat} {l : List Value} (h : Has w g l) : Has w.drew g l := fun j hj => by
 simpa using h j hj
theorem Has.cellAt {w : World} {g : Nat} {l : List Value} (h : Has w g l) (j : Nat) (hj : j < l.length) : w.cell? ⟨g, j, none⟩ = some l[j] := (h j hj).1
def bv (b : UInt8) : Value := .int .u8 (b.toNat : Int)
theorem Has.text {P : Program} {w : World} {g cap : Nat} {l : List UInt8} (h : Has w g (l.map bv)) (src dst e : TypeId) (hs : P.underlying src = some (.slice e)) (he : P.underlying e = some (.int .u8)) (hd : P.underlying dst = some .string) (n : Nat) (hn : n = l.length) :
 (convert src dst (.slice (some ⟨g, 0, none⟩) n cap)).run P w = .ok (.string ⟨l.toArray⟩) w := by
 subst hn
 refine run_convert_bytes_back w src dst e ⟨g, 0, none⟩ cap l hs he hd ?_
 intro j hj
 have := (h j (by simpa using hj)).1
 have e : (⟨g, 0, none⟩ : Addr).add j = ⟨g, j, none⟩ := by cases j <;> simp [Addr.add]
 rw [e, this]
 simp [bv]
theorem Has.lt {w : World} {g : Nat} {l : List Value} (h : Has w g l) (hl : 0 < l.length) : g < w.heap.size := by
 have h0 := (h 0 hl).1
 rcases Nat.lt_or_ge g w.heap.size with c | c
 ·
  exact c
 ·
  simp [World.cell?, Array.getElem?_eq_none c] at h0
theorem grown_trans {a b c : World} {r : Option Nat} (h : a.grownBy b r) (k : b.grownBy c r) : a.grownBy c r :=
 ⟨k.os.trans h.os, k.tape.trans h.tape, k.output.trans h.output, Nat.le_trans h.size k.size, fun i hi hr => (k.block i (Nat.lt_of_lt_of_le hi h.size) hr).trans (h.block i hi hr)⟩
theorem Below.grownBy {a b : World} (h : Below a.heap.size a b) (r : Option Nat) : a.grownBy b r :=
 ⟨h.os, h.tape, h.output, h.size, fun i hi _ => h.block i hi⟩
theorem Has.grown {w w' : World} {g : Nat} {l : List Value} {r : Option Nat} (h : Has w g l) (hg : w.grownBy w' r) (hr : some g ≠ r) : Has w' g l := by
 intro i hi
 obtain ⟨h1, h2⟩ := h i hi
 have hl := h.lt (by omega)
 have hb := hg.block g hl hr
 exact ⟨by rw [World.cell?_of_block (w := w) (a := ⟨g, i, none⟩) hb, h1], by rw [World.frozen?_of_block (w := w) (a := ⟨g, i, none⟩) hb, h2]⟩
end
section
open Go.RowKit
end
section
open Go.RowKit
theorem div_one (y : Nat) (m : Nat) : y % 2 ^ (m + 1) = 2 * (y / 2 % 2 ^ m) + y % 2 := by
 rw [Nat.pow_succ, Nat.mul_comm, Nat.mod_mul]
 omega
end
section
open Go.RowKit
end
section
open Go.RowKit
def Six (m : Nat → Nat) : Prop := m 0 < 256 ∧ m 1 < 256 ∧ m 2 < 256 ∧ m 3 < 256 ∧ m 4 < 256 ∧ m 5 < 256
theorem Six.at {m : Nat → Nat} (h : Six m) (k : Nat) (hk : k < 6) : m k < 256 := by
 obtain ⟨h0, h1, h2, h3, h4, h5⟩ := h
 match k, hk with
 | 0, _ => exact h0
 | 1, _ => exact h1
 | 2, _ => exact h2
 | 3, _ => exact h3
 | 4, _ => exact h4
 | 5, _ => exact h5
end
section
open Go.RowKit
end
section
open Go.RowKit
theorem run_loadRange {P : Program} {o : Oper} {a : Act} {w : World} (ty : TypeId) (x : Operand) (ho : o.op = .load ty x) (g j : Nat) (hx : a.eval x = .pointer (some ⟨g, j, none⟩)) (arr : Array Value) (d : TypeDesc) (hr : w.rangeAt g j arr.toList)
 (hu : P.underlying ty = some d) (hd : d.isRow = true) (hi : (P.info? ty).map (·.size) = some arr.size) : (execOp a.eval o).run P w = .ok (.value (.agg arr)) w := by
 unfold execOp
 simp only [ho, hx, Instr.loadAt, Instr.sureAddr, Sem.run_bind, Sem.run_pure, Result.andThen_ok, run_loadVar_mid w g j ty arr.toList d hr hu hd (by simpa using hi), Array.toArray_toList]
end
section
open Go.RowKit
section
variable {α : Type} {enc : α → List Value} {size : Nat}
def cellsL (enc : α → List Value) (l : List α) : List Value := l.flatMap enc
theorem cellsL_cons (x : α) (l : List α) : cellsL enc (x :: l) = enc x ++ cellsL enc l := List.flatMap_cons
theorem cellsL_app (a b : List α) : cellsL enc (a ++ b) = cellsL enc a ++ cellsL enc b := List.flatMap_append
theorem cellsL_len (h : ∀ x, (enc x).length = size) (l : List α) : (cellsL enc l).length = l.length * size := by
 induction l with
 | nil => simp [cellsL]
 | cons x l ih => rw [cellsL_cons, List.length_append, h, ih, List.length_cons, Nat.succ_mul, Nat.add_comm]
theorem cellsL_at (h : ∀ x, (enc x).length = size) (l : List α) (i j : Nat) (x : α) (hx : l[i]? = some x) (hj : j < size) : (cellsL enc l)[i * size + j]? = (enc x)[j]? := by
 induction l generalizing i with
 | nil => simp at hx
 | cons y l ih =>
  rw [cellsL_cons]
  cases i with
  | zero =>
   simp only [List.getElem?_cons_zero, Option.some.injEq] at hx
   subst hx
   rw [Nat.zero_mul, Nat.zero_add, List.getElem?_append_left (by rw [h]; exact hj)]
  | succ i =>
   have e : (i + 1) * size + j = size + (i * size + j) := by rw [Nat.succ_mul]; omega
   rw [List.getElem?_append_right (by rw [h, e]; omega), h, e, Nat.add_sub_cancel_left]
   exact ih i (by simpa using hx)
theorem cellsL_take (h : ∀ x, (enc x).length = size) (l : List α) (k : Nat) : (cellsL enc l).take (k * size) = cellsL enc (l.take k) := by
 induction l generalizing k with
 | nil => simp [cellsL]
 | cons x l ih =>
  cases k with
  | zero => simp [cellsL]
  | succ k =>
   rw [cellsL_cons, List.take_succ_cons, cellsL_cons, ← ih k, List.take_append, h, List.take_of_length_le (by rw [h, Nat.succ_mul]; omega), Nat.succ_mul, Nat.add_sub_cancel]
theorem cellsL_drop (h : ∀ x, (enc x).length = size) (l : List α) (k : Nat) : (cellsL enc l).drop (k * size) = cellsL enc (l.drop k) := by
 induction l generalizing k with
 | nil => simp [cellsL]
 | cons x l ih =>
  cases k with
  | zero => simp
  | succ k =>
   rw [cellsL_cons, List.drop_succ_cons, ← ih k, List.drop_append, h, List.drop_of_length_le (by rw [h, Nat.succ_mul]; omega), Nat.succ_mul, Nat.add_sub_cancel, List.nil_append]
theorem cellsL_one_cell (h : ∀ x, ∀ u ∈ enc x, u.oneCell' = true) (l : List α) : ∀ u ∈ cellsL enc l, u.oneCell' = true := by
 intro u hu
 obtain ⟨x, -, hx⟩ := List.mem_flatMap.1 hu
 exact h x u hx
variable {w w' : World} {base : Nat} {e : TypeId} {v : Value} {l : List α}
def Own (w : World) (base : Nat) (e : TypeId) (size : Nat) (enc : α → List Value) (v : Value) (l : List α) : Prop := w.ownsRow base e size v l.length (cellsL enc l)
theorem Own.nil (w : World) (base : Nat) (e : TypeId) (size : Nat) (enc : α → List Value) : Own w base e size enc (.slice none 0 0) [] := World.ownsRow_nil w base e size
theorem Own.cases (h : Own w base e size enc v l) : (v = .slice none 0 0 ∧ l = []) ∨ ∃ g cap, v = .slice (some ⟨g, 0, none⟩) l.length cap ∧ base ≤ g ∧ g < w.heap.size ∧ l.length ≤ cap ∧ cap ≤ maxLen := by
 rcases h.2 with ⟨h1, h2⟩ | ⟨g, cap, cur, h1, h2, h3, h4, h5, -⟩
 ·
  exact .inl ⟨h1, List.eq_nil_of_length_eq_zero h2⟩
 ·
  exact .inr ⟨g, cap, h1, h2, (Array.getElem?_eq_some_iff.1 h3).1, h4, h5⟩
theorem Own.at {g cap : Nat} (henc : ∀ x, (enc x).length = size) (h : Own w base e size enc (.slice (some ⟨g, 0, none⟩) l.length cap) l) (i j : Nat) (x : α) (hx : l[i]? = some x) (hj : j < size) : w.cell? ⟨g, i * size + j, none⟩ = (enc x)[j]? := by
 have hi : i < l.length := (List.getElem?_eq_some_iff.1 hx).1
 have hm : i * size + j < l.length * size := by
  have : (i + 1) * size ≤ l.length * size := Nat.mul_le_mul_right _ hi
  rw [Nat.succ_mul] at this
  omega
 rw [World.ownsRow.cellAt h (i * size + j) hm, cellsL_at henc l i j x hx hj]
theorem Own.free {g cap : Nat} (h : Own w base e size enc (.slice (some ⟨g, 0, none⟩) l.length cap) l) (j : Nat) : w.frozen? ⟨g, j, none⟩ = false := World.ownsRow.frozenAt h j
theorem Own.kept {row : Option Nat} (h : Own w base e size enc v l) (hg : w.grownBy w' row) (hne : v.ownBlock = none ∨ v.ownBlock ≠ row) : Own w' base e size enc v l := World.ownsRow.kept h hg hne
theorem Own.lt (h : Own w base e size enc v l) : ∀ k, v.ownBlock = some k → base ≤ k ∧ k < w.heap.size := World.ownsRow.lt h
theorem Own.below {B : Nat} (h : Own w base e size enc v l) (hb : Below B w w') (hB : ∀ k, v.ownBlock = some k → k < B) : Own w' base e size enc v l := by
 refine ⟨h.1, ?_⟩
 rcases h.2 with hn | ⟨g, cap, cur, rfl, h2, h3, h4⟩
 ·
  exact .inl hn
 ·
  exact .inr ⟨g, cap, cur, rfl, h2, (hb.block g (hB g rfl)).trans h3, h4⟩
theorem Own.next (h : Own w base e size enc v l) (hb : Below w.heap.size w w') : Own w' base e size enc v l := h.below hb (fun k hk => (h.lt k hk).2)
theorem Own.drew (h : Own w base e size enc v l) : Own w.drew base e size enc v l := h
theorem Own.alloc (h : Own w base e size enc v l) (o : Obj) : Own (w.alloc o) base e size enc v l := World.ownsRow.alloc h o
theorem Own.setCell {a : Addr} (h : Own w base e size enc v l) (ha : v.ownBlock ≠ some a.block) (u : Value) : Own (w.setCell a u) base e size enc v l := by
 refine ⟨h.1, ?_⟩
 rcases h.2 with hn | ⟨g, cap, cur, rfl, h2, h3, h4⟩
 ·
  exact .inl hn
 ·
  exact .inr ⟨g, cap, cur, rfl, h2, (Below.heap_setCell w a u g (fun q => ha (by rw [← q]; rfl))).trans h3, h4⟩
theorem Own.mono {base' : Nat} (h : Own w base e size enc v l) (hb : base' ≤ base) : Own w base' e size enc v l :=
 ⟨h.1, h.2.imp id fun ⟨g, cap, cur, h1, h2, h3⟩ => ⟨g, cap, cur, h1, Nat.le_trans hb h2, h3⟩⟩
theorem Own.made (w : World) (hb : base ≤ w.heap.size) (enc : α → List Value) : Own (w.alloc (.cells #[] e)) base e size enc (.slice (some ⟨w.heap.size, 0, none⟩) 0 0) [] := by
 have := World.ownsRow_made (e := e) (size := size) w #[] 0 hb (by unfold maxLen; omega) (by simp)
 exact this
theorem Own.lit (w : World) (hb : base ≤ w.heap.size) (henc : ∀ x, (enc x).length = size) (l : List α) (hl : l.length ≤ maxLen) : Own (w.alloc (.cells (cellsL enc l).toArray e)) base e size enc (.slice (some ⟨w.heap.size, 0, none⟩) l.length l.length) l :=
 World.ownsRow_lit w (cellsL enc l).toArray l.length hb hl (by simp [cellsL_len henc])
theorem Own.piece {g cap : Nat} (henc : ∀ x, (enc x).length = size) (h : Own w base e size enc (.slice (some ⟨g, 0, none⟩) l.length cap) l) (k m : Nat) :
 ∀ j u, (cellsL enc ((l.drop k).take m))[j]? = some u → w.cell? ((⟨g, 0, none⟩ : Addr).add (k * size + j)) = some u := by
 intro j u hu
 rw [← cellsL_take henc, ← cellsL_drop henc] at hu
 have hj : j < m * size := by
  rcases Nat.lt_or_ge j (m * size) with c | c
  ·
   exact c
  ·
   rw [List.getElem?_eq_none (by rw [List.length_take]; omega)] at hu; cases hu
 rw [List.getElem?_take_of_lt hj, List.getElem?_drop] at hu
 exact World.ownsRow.cells h (g := g) rfl _ _ hu
def Src (w : World) (enc : α → List Value) (sv : Value) (news : List α) : Prop :=
 (sv = .slice none 0 0 ∧ news = []) ∨ ∃ ad c, sv = .slice (some ad) news.length c ∧ ∀ j u, (cellsL enc news)[j]? = some u → w.cell? (ad.add j) = some u
theorem Own.src (h : Own w base e size enc v l) : Src w enc v l := by
 rcases h.cases with ⟨rfl, rfl⟩ | ⟨g, cap, rfl, -⟩
 ·
  exact .inl ⟨rfl, rfl⟩
 ·
  exact .inr ⟨_, cap, rfl, fun j u hu => World.ownsRow.cells h (g := g) rfl j u hu⟩
theorem Own.app {P : Program} {t ty : TypeId} {i : TypeInfo} {z sv : Value} {news : List α} {bytes : Nat} (h : Own w base e size enc v l) (hs : Src w enc sv news) (ht : P.underlying t = some (.slice e)) (hi : P.info? e = some i) (hz : i.zero = some z)
 (hsize : i.size = size) (hby : i.bytes = bytes) (hzs : z.cells.size = size) (hsz : 0 < size) (henc : ∀ x, (enc x).length = size) (h1 : ∀ x, ∀ u ∈ enc x, u.oneCell' = true)
 (h63 : l.length + news.length ≤ maxLen) (hbytes : (l.length + news.length) * bytes ≤ 140737488355328) (hbase : base ≤ w.heap.size) :
 ∃ v' w', (Builtin.append_ #[t, t] ty #[v, sv]).run P w = .ok v' w' ∧ Own w' base e size enc v' (l ++ news) ∧ w.grownBy w' v.ownBlock ∧ (v'.ownBlock = v.ownBlock ∨ v'.ownBlock = some w.heap.size) := by
 rcases hs with ⟨rfl, rfl⟩ | ⟨ad, c, rfl, hc⟩
 ·
  refine ⟨v, w, run_append_owned_none w base t ty e i size ht hi v l.length _ h, by simpa using h, World.grownBy.refl w _, .inl rfl⟩
 ·
  obtain ⟨v', w', hrun, h2, h3, -, h5⟩ := run_append_own_at (P := P) w base t ty e i z size bytes ht hi hz hsize hby hzs hsz v l.length _ h ad news.length c (cellsL enc news) (cellsL_len henc news) hc (cellsL_one_cell h1 news) h63 hbytes hbase
  refine ⟨v', w', hrun, ?_, h3, h5⟩
  unfold Own
  rw [cellsL_app, List.length_append]
  exact h2
theorem wp_append_lst {P : Program} {o : Oper} {a : Act} {w : World} {K : Act → World → Prop} {Q : Exit → Act → World → Prop} (s x : Operand) (t : TypeId) (ho : o.op = .call { callee := .builtin .append, args := #[s, x], argTypes := #[t, t] })
 (v' : Value) (w' : World) (hrun : (Builtin.append_ #[t, t] o.type #[a.eval s, a.eval x]).run P w = .ok v' w') (h : K (a.put o.dst v') w') : o.wp P a w K Q := by
 unfold Oper.wp execOp
 simp only [ho, resolve, invoke, builtin, Sem.run_bind, Sem.run_pure, Result.andThen_ok, List.map_toArray, List.map_cons, List.map_nil, hrun]
 exact h
def putAt (xs : List Value) : Nat → List Value → List Value
 | _, [] => xs
 | j, u :: us => putAt (xs.set j u) (j + 1) us
theorem putAt_get (us : List Value) : ∀ (xs : List Value) (j i : Nat), j + us.length ≤ xs.length → (putAt xs j us)[i]? = if j ≤ i ∧ i < j + us.length then us[i - j]? else xs[i]? := by
 induction us with
 | nil =>
  intro xs j i _
  rw [if_neg (by simp only [List.length_nil]; omega)]
  rfl
 | cons u us ih =>
  intro xs j i h
  simp only [List.length_cons] at h ⊢
  rw [putAt, ih _ _ _ (by rw [List.length_set]; omega)]
  by_cases c : j = i
  ·
   subst c
   rw [if_neg (by omega), if_pos (by omega), List.getElem?_set_self (by omega)]
   simp
  ·
   by_cases c2 : j + 1 ≤ i ∧ i < j + 1 + us.length
   ·
    rw [if_pos c2, if_pos (by omega)]
    obtain ⟨d, hd⟩ : ∃ d, i - j = d + 1 := ⟨i - j - 1, by omega⟩
    rw [hd, show i - (j + 1) = d by omega]
    rfl
   ·
    rw [if_neg c2, if_neg (by omega), List.getElem?_set_ne c]
theorem putAt_cells (henc : ∀ x, (enc x).length = size) (l : List α) (k : Nat) (x : α) (hk : k < l.length) : putAt (cellsL enc l) (k * size) (enc x) = cellsL enc (l.set k x) := by
 have hl := cellsL_len henc l
 have hks : k * size + size ≤ l.length * size := by
  have : (k + 1) * size ≤ l.length * size := Nat.mul_le_mul_right _ hk
  rw [Nat.succ_mul] at this
  exact this
 apply List.ext_getElem?
 intro i
 rw [putAt_get _ _ _ _ (by rw [henc, hl]; exact hks), henc]
 rcases Nat.eq_zero_or_pos size with h0 | h0
 ·
  subst h0
  rw [if_neg (by omega), List.getElem?_eq_none (by rw [hl]; omega), List.getElem?_eq_none (by rw [cellsL_len henc]; omega)]
 rcases Nat.lt_or_ge i (l.length * size) with hi | hi
 ·
  have hd : i = i / size * size + i % size := by have := Nat.div_add_mod i size; rw [Nat.mul_comm] at this; omega
  have hm := Nat.mod_lt i h0
  have hdl : i / size < l.length := Nat.div_lt_of_lt_mul (by rw [Nat.mul_comm]; exact hi)
  obtain ⟨y, hy⟩ : ∃ y, l[i / size]? = some y := ⟨_, List.getElem?_eq_getElem hdl⟩
  by_cases c : i / size = k
  ·
   have hset : (l.set k x)[i / size]? = some x := by rw [c, List.getElem?_set_self hk]
   have e := cellsL_at henc (l.set k x) (i / size) (i % size) x hset hm
   rw [← hd] at e
   rw [e, if_pos (by rw [← c]; omega), ← c]
   congr 1
   omega
  ·
   have hset : (l.set k x)[i / size]? = some y := by rw [List.getElem?_set_ne (fun q => c q.symm), hy]
   have e := cellsL_at henc (l.set k x) (i / size) (i % size) y hset hm
   have e2 := cellsL_at henc l (i / size) (i % size) y hy hm
   rw [← hd] at e e2
   rw [e, e2, if_neg]
   rintro ⟨h1, h2⟩
   apply c
   rcases Nat.lt_trichotomy (i / size) k with q | q | q
   ·
    have : (i / size + 1) * size ≤ k * size := Nat.mul_le_mul_right _ q
    rw [Nat.succ_mul] at this
    omega
   ·
    exact q
   ·
    have : (k + 1) * size ≤ i / size * size := Nat.mul_le_mul_right _ q
    rw [Nat.succ_mul] at this
    omega
 ·
  rw [if_neg (by omega), List.getElem?_eq_none (by rw [hl]; omega), List.getElem?_eq_none (by rw [cellsL_len henc, List.length_set]; omega)]
theorem own_setCells {g cap n : Nat} (us : List Value) : ∀ (j : Nat) (w : World) (xs : List Value), w.ownsRow base e size (.slice (some ⟨g, 0, none⟩) n cap) n xs →
 (w.setCells g j us).ownsRow base e size (.slice (some ⟨g, 0, none⟩) n cap) n (putAt xs j us) ∧ w.grownBy (w.setCells g j us) (some g) := by
 induction us with
 | nil => intro j w xs h; exact ⟨h, World.grownBy.refl w _⟩
 | cons u us ih =>
  intro j w xs h
  obtain ⟨h1, h2⟩ := World.ownsRow.stored h j u
  obtain ⟨h3, h4⟩ := ih (j + 1) _ _ h1
  exact ⟨h3, h4.os.trans h2.os, h4.tape.trans h2.tape, h4.output.trans h2.output, Nat.le_trans h2.size h4.size, fun i hi hr => (h4.block i (Nat.lt_of_lt_of_le hi h2.size) hr).trans (h2.block i hi hr)⟩
theorem Own.store {g cap : Nat} (henc : ∀ x, (enc x).length = size) (h : Own w base e size enc (.slice (some ⟨g, 0, none⟩) l.length cap) l) (k : Nat) (x : α) (hk : k < l.length) :
 Own (w.setCells g (k * size) (enc x)) base e size enc (.slice (some ⟨g, 0, none⟩) l.length cap) (l.set k x) ∧ w.grownBy (w.setCells g (k * size) (enc x)) (some g) := by
 obtain ⟨h1, h2⟩ := own_setCells (enc x) (k * size) w _ h
 rw [putAt_cells henc l k x hk] at h1
 refine ⟨?_, h2⟩
 unfold Own
 rw [List.length_set]
 exact h1
theorem Own.there {g cap : Nat} (henc : ∀ x, (enc x).length = size) (h : Own w base e size enc (.slice (some ⟨g, 0, none⟩) l.length cap) l) (k : Nat) (hk : k < l.length) : w.there g (k * size) size := by
 intro j hj
 obtain ⟨x, hx⟩ : ∃ x, l[k]? = some x := ⟨_, List.getElem?_eq_getElem hk⟩
 refine ⟨?_, h.free _⟩
 rw [h.at henc k j x hx hj, List.getElem?_eq_getElem (by rw [henc]; exact hj)]
 rfl
theorem wpList_append_lst {P : Program} {ops : Array Oper} {rest : List Oper} {o : Oper} {a : Act} {w : World} {Q : Exit → Act → World → Prop} (hgd : o.guard = none) (s x : Operand) (t : TypeId) (ho : o.op = .call { callee := .builtin .append, args := #[s, x], argTypes := #[t, t] })
 (v' : Value) (w' : World) (hrun : (Builtin.append_ #[t, t] o.type #[a.eval s, a.eval x]).run P w = .ok v' w') (h : wpList P ops Q rest (a.put o.dst v') w') : wpList P ops Q (o :: rest) a w :=
 wpList_plain hgd fun _ hK => wp_append_lst s x t ho v' w' hrun (hK _ _ h)
end
end
section
open Go.RowKit
structure ElT {α : Type} (P : Program) (t e : TypeId) (size : Nat) (enc : α → List Value) : Prop where
 ht : P.underlying t = some (.slice e)
 info : ∃ i z b, P.info? e = some i ∧ i.zero = some z ∧ i.size = size ∧ i.bytes = b ∧ z.cells.size = size ∧ b ≤ 1000
 pos : 0 < size
 len : ∀ x, (enc x).length = size
 one : ∀ x, ∀ u ∈ enc x, u.oneCell' = true
section
variable {α : Type} {P : Program} {t e : TypeId} {size : Nat} {enc : α → List Value} {w w' w0 : World} {base Z : Nat}
theorem ElT.app (E : ElT P t e size enc) {v sv : Value} {l news : List α} (h : Own w base e size enc v l) (hs : Src w enc sv news) (hl : l.length + news.length ≤ 2000) (hb : base ≤ w.heap.size) (ty : TypeId) :
 ∃ v' w', (Builtin.append_ #[t, t] ty #[v, sv]).run P w = .ok v' w' ∧ Own w' base e size enc v' (l ++ news) ∧ w.grownBy w' v.ownBlock ∧ (v'.ownBlock = v.ownBlock ∨ v'.ownBlock = some w.heap.size) := by
 obtain ⟨i, z, b, h1, h2, h3, h4, h5, h6⟩ := E.info
 exact h.app hs E.ht h1 h2 h3 h4 h5 E.pos E.len E.one (by unfold maxLen; omega) (by
  have : (l.length + news.length) * b ≤ 2000 * 1000 := Nat.mul_le_mul hl h6
  omega) hb
theorem grownBelow {a b : World} {row : Option Nat} {B : Nat} {w0 : World} (h0 : Below B w0 a) (h : a.grownBy b row) (hr : ∀ k, row = some k → B ≤ k) (hB : B ≤ a.heap.size) : Below B w0 b := h0.grown h hB hr
structure InsW (e : TypeId) (size : Nat) (enc : α → List Value) (w0 : World) (A : List α) (x : α) (B : List α) (a0 a4 a6 a7 a11 : Bool) (v0 v4 v6 v7 v11 : Value) (w : World) : Prop where
 below : Below w0.heap.size w0 w
 p0 : a0 = true → a4 = false → Own w w0.heap.size e size enc v0 []
 p4 : a4 = true → a7 = false → Own w w0.heap.size e size enc v4 A
 p6 : a6 = true → a7 = false → Own w w0.heap.size e size enc v6 [x]
 n0 : a6 = true → a0 = true → a4 = false → ∀ g, v6.ownBlock = some g → v0.ownBlock ≠ some g
 n4 : a6 = true → a4 = true → a7 = false → ∀ g, v6.ownBlock = some g → v4.ownBlock ≠ some g
 p7 : a7 = true → a11 = false → Own w w0.heap.size e size enc v7 (A ++ [x])
 p11 : a11 = true → Own w w0.heap.size e size enc v11 (A ++ [x] ++ B)
 o4 : a4 = true → a0 = true
 o7 : a7 = true → a4 = true ∧ a6 = true
 o11 : a11 = true → a7 = true
variable {A B : List α} {x : α} {a0 a4 a6 a7 a11 : Bool} {v0 v4 v6 v7 v11 : Value}
theorem InsW.start (w : World) : InsW e size enc w A x B false false false false false v0 v4 v6 v7 v11 w.drew :=
 ⟨(Below.refl _ _).drew, (fun h => Bool.noConfusion h), (fun h => Bool.noConfusion h), (fun h => Bool.noConfusion h), (fun h => Bool.noConfusion h), (fun h => Bool.noConfusion h), (fun h => Bool.noConfusion h), (fun h => Bool.noConfusion h), (fun h => Bool.noConfusion h), (fun h => Bool.noConfusion h), (fun h => Bool.noConfusion h)⟩
end
end
end Go.Proofs.YteeinlbhcdpnnaaDoor
