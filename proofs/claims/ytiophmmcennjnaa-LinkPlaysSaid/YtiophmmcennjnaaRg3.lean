/- A region as a whole: pure operations and unwanted ones all at rgOnce. -/
import Derived.Test.YtiophmmcennjnaaRg2
namespace Go.Proofs.Ytiophmmcennjnaa
open Go.RowKit
set_option linter.unusedVariables false

def outV (P : Program) (ops : Array Oper) (vs : Nat → Value) (a : Act) (w : World) (i : Nat) : Result Next := match ops[i]? with | some o => (execOp (view ops vs a i) o).run P w | none => .ok .skip w
def ansV (vs : Nat → Value) (w : World) (i : Nat) : Result Next := .ok (.value (vs i)) w
def wantI (ops : Array Oper) (vs : Nat → Value) (i : Nat) : Bool := match ops[i]? with | some o => wantV vs o | none => true
section
variable {P : Program} {ops : Array Oper} {vs : Nat → Value} {a : Act} {L : Nat → Bool} {i : Nat} {o : Oper} {w : World} {Q : Exit → Act → World → Prop}
theorem rg_map_at {α : Type} {f g : Nat → α} : ∀ {l : List Nat} (h : l.map f = l.map g) {i : Nat}, i ∈ l → f i = g i
  | x :: l, h, i, hi => by
    simp only [List.map_cons, List.cons.injEq] at h
    rcases List.mem_cons.1 hi with rfl | hi
    · exact h.1
    · exact rg_map_at h.2 hi
/-- The steps: pure ones (ps), unwanted ones (qs), the rest (rs) one by one. -/
theorem steps_of (C : (Nat → Bool) → World → Prop) (ps qs rs : List Nat)
    (hcov : (List.range ops.size).all (fun i => ps.contains i || qs.contains i || rs.contains i) = true)
    (hpw : ps.map (wantI ops vs) = ps.map fun _ => true) (hp : ∀ w, ps.map (outV P ops vs a w) = ps.map (ansV vs w))
    (hqw : qs.map (wantI ops vs) = qs.map fun _ => false) (hq : qs.map vs = qs.map fun _ => undef)
    (hC : ∀ i, i ∈ ps ∨ i ∈ qs → ∀ L w, C L w → C (upd L i) w)
    (hr : ∀ i, i ∈ rs → ∀ L w, C L w → L i = false → (∀ j ∈ afters ops i, L j = true) → wantI ops vs i = true ∧ ∀ o, ops[i]? = some o → stepV P o (view ops vs a i) (vs i) (fun w' => C (upd L i) w') w) :
    ∀ i o, ops[i]? = some o → ∀ L w, C L w → L i = false → (∀ j ∈ afters ops i, L j = true) → if wantV vs o then stepV P o (view ops vs a i) (vs i) (fun w' => C (upd L i) w') w else undef = vs i ∧ C (upd L i) w := by
  intro i o ho L w hc hL ha
  rw [List.all_eq_true] at hcov
  have q := hcov i (List.mem_range.2 (Array.getElem?_eq_some_iff.1 ho).1)
  have ew : wantI ops vs i = wantV vs o := by unfold wantI; rw [ho]
  rw [Bool.or_eq_true, Bool.or_eq_true, List.contains_iff_mem, List.contains_iff_mem, List.contains_iff_mem] at q
  rcases q with (q | q) | q
  · have e1 := rg_map_at hpw q
    have e2 := rg_map_at (hp w) q
    rw [ew] at e1
    rw [if_pos e1]
    unfold outV ansV at e2
    rw [ho] at e2
    have e2 : (execOp (view ops vs a i) o).run P w = .ok (.value (vs i)) w := e2
    unfold stepV
    rw [e2]
    exact ⟨rfl, hC i (.inl q) L w hc⟩
  · have e1 : wantI ops vs i = false := rg_map_at hqw q
    have e2 : vs i = undef := rg_map_at hq q
    rw [ew] at e1
    rw [e1]
    exact ⟨e2.symm, hC i (.inr q) L w hc⟩
  · obtain ⟨e1, h⟩ := hr i q L w hc hL ha
    rw [ew] at e1
    rw [if_pos e1]
    exact h o ho
theorem stepV_val {ρ : Operand → Value} {v : Value} {K : World → Prop} (h : (execOp ρ o).run P w = .ok (.value v) w) (hK : K w) : stepV P o ρ v K w := by
  unfold stepV
  rw [h]
  exact ⟨rfl, hK⟩
theorem stepV_load {ρ : Operand → Value} {v : Value} {K : World → Prop} {ty : TypeId} {x : Operand} {p : Addr} (ho : o.op = .load ty x) (hx : ρ x = .pointer (some p)) (hl : (Instr.loadAt ty (.pointer (some p))).run P w = .ok v w) (hK : K w) : stepV P o ρ v K w := by
  refine stepV_val ?_ hK
  unfold execOp
  simp only [ho, hx, Sem.run_bind, Sem.run_pure, hl, Result.andThen]
/-- The whole of a region that draws its order, with its last frame. -/
theorem region_whole {id : Nat} {a' : Act} (vs : Nat → Value) (C : (Nat → Bool) → World → Prop) (hm : P.follows .mixedOrders = true) (hd : dag ops = true) (hn : rgOnce ops a.tmps.size = true) (hdep : depsOk ops = true) (hg : guardsOk ops = true) (hsel : noSel ops = true) (hfin : rgF ops vs a (fun _ => true) = a') (h0 : C (fun _ => false) w.drew)
    (hstep : ∀ i o, ops[i]? = some o → ∀ L w, C L w → L i = false → (∀ j ∈ afters ops i, L j = true) → if wantV vs o then stepV P o (view ops vs a i) (vs i) (fun w' => C (upd L i) w') w else undef = vs i ∧ C (upd L i) w)
    (hend : ∀ L w, C L w → (∀ i, i < ops.size → L i = true) → Q .normal a' w) : (Code.region id ops true).wp P Q a w :=
  region_view vs C hm hd hn hdep hg hsel h0 hstep (hfin ▸ hend)
theorem region_whole_lit {id : Nat} {a' : Act} (vs : Nat → Value) (C : (Nat → Bool) → World → Prop) (ht : textOk ops = true) (hn : rgOnce ops a.tmps.size = true) (hdep : depsOk ops = true) (hg : guardsOk ops = true) (hsel : noSel ops = true) (hfin : rgF ops vs a (fun _ => true) = a') (h0 : C (fun _ => false) w)
    (hstep : ∀ i o, ops[i]? = some o → ∀ L w, C L w → L i = false → (∀ j ∈ afters ops i, L j = true) → if wantV vs o then stepV P o (view ops vs a i) (vs i) (fun w' => C (upd L i) w') w else undef = vs i ∧ C (upd L i) w)
    (hend : ∀ L w, C L w → (∀ i, i < ops.size → L i = true) → Q .normal a' w) : (Code.region id ops false).wp P Q a w :=
  region_view_lit vs C ht hn hdep hg hsel h0 hstep (hfin ▸ hend)
end
end Go.Proofs.Ytiophmmcennjnaa
