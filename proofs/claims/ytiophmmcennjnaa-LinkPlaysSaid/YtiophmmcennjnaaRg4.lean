/- A region as a whole: loads of known cells all at once. -/
import Derived.Test.YtiophmmcennjnaaRg3
namespace Go.Proofs.Ytiophmmcennjnaa
open Go.RowKit
set_option linter.unusedVariables false
set_option linter.unusedSimpArgs false

def plainT : Option TypeDesc → Bool | some (.struct _) => false | some (.array _ _) => false | some _ => true | none => false
/-- Which cell an operation loads. -/
def ldAt (P : Program) (ops : Array Oper) (vs : Nat → Value) (a : Act) (i : Nat) : Bool × Value := match ops[i]? with | some o => (match o.op with | .load ty x => (plainT (P.underlying ty), view ops vs a i x) | _ => (false, undef)) | none => (false, undef)
/-- All of them hold what is loaded. -/
def cellsAt (w : World) (vs : Nat → Value) : List (Nat × Addr) → Prop | [] => True | (i, p) :: l => w.cell? p = some (vs i) ∧ cellsAt w vs l
section
variable {P : Program} {ops : Array Oper} {vs : Nat → Value} {a : Act} {L : Nat → Bool} {i : Nat} {o : Oper} {w : World} {Q : Exit → Act → World → Prop}
theorem cellsAt_mem : ∀ {l : List (Nat × Addr)} (h : cellsAt w vs l) {e : Nat × Addr}, e ∈ l → w.cell? e.2 = some (vs e.1)
  | (j, p) :: l, h, e, he => by
    rcases List.mem_cons.1 he with rfl | he
    · exact h.1
    · exact cellsAt_mem h.2 he
theorem run_loadAt_cell {ty : TypeId} {p : Addr} {v : Value} (hu : plainT (P.underlying ty) = true) (hc : w.cell? p = some v) : (Instr.loadAt ty (.pointer (some p))).run P w = .ok v w := by
  cases c : P.underlying ty with
  | none => rw [c] at hu; cases hu
  | some d =>
    rw [c] at hu
    cases d <;> first | (cases hu; done) | (simp [Instr.loadAt, Instr.sureAddr, loadVar, isAgg, underlying, c, hc, Result.andThen])
theorem rg_map_mem {α β : Type} {f g : α → β} : ∀ {l : List α} (h : l.map f = l.map g) {i : α}, i ∈ l → f i = g i
  | x :: l, h, i, hi => by
    simp only [List.map_cons, List.cons.injEq] at h
    rcases List.mem_cons.1 hi with rfl | hi
    · exact h.1
    · exact rg_map_mem h.2 hi
/-- The steps: pure ones (ps), unwanted ones (qs), loads of known cells (ls), the rest (rs) one by one. -/
theorem steps_of2 (C : (Nat → Bool) → World → Prop) (ps qs : List Nat) (ls : List (Nat × Addr)) (rs : List Nat)
    (hcov : (List.range ops.size).all (fun i => ps.contains i || qs.contains i || ((ls.map Prod.fst) ++ rs).contains i) = true)
    (hpw : ps.map (wantI ops vs) = ps.map fun _ => true) (hp : ∀ w, ps.map (outV P ops vs a w) = ps.map (ansV vs w))
    (hqw : qs.map (wantI ops vs) = qs.map fun _ => false) (hq : qs.map vs = qs.map fun _ => undef)
    (hlw : ls.map (fun e => wantI ops vs e.1) = ls.map fun _ => true) (hl : ls.map (fun e => ldAt P ops vs a e.1) = ls.map fun e => (true, .pointer (some e.2)))
    (hc : ∀ L w, C L w → cellsAt w vs ls)
    (hC : ∀ i, i ∈ ps ∨ i ∈ qs ∨ i ∈ ls.map Prod.fst → ∀ L w, C L w → C (upd L i) w)
    (hr : ∀ i, i ∈ rs → ∀ L w, C L w → L i = false → (∀ j ∈ afters ops i, L j = true) → wantI ops vs i = true ∧ ∀ o, ops[i]? = some o → stepV P o (view ops vs a i) (vs i) (fun w' => C (upd L i) w') w) :
    ∀ i o, ops[i]? = some o → ∀ L w, C L w → L i = false → (∀ j ∈ afters ops i, L j = true) → if wantV vs o then stepV P o (view ops vs a i) (vs i) (fun w' => C (upd L i) w') w else undef = vs i ∧ C (upd L i) w := by
  refine steps_of C ps qs (ls.map Prod.fst ++ rs) hcov hpw hp hqw hq (fun i h => hC i (h.imp id .inl)) ?_
  intro i hi L w hw hL ha
  rcases List.mem_append.1 hi with h | h
  · obtain ⟨e, he, rfl⟩ := List.mem_map.1 h
    refine ⟨rg_map_mem hlw he, fun o ho => ?_⟩
    have q := rg_map_mem hl he
    unfold ldAt at q
    rw [ho] at q
    have q : (match o.op with | .load ty x => (plainT (P.underlying ty), view ops vs a e.1 x) | _ => (false, undef)) = (true, .pointer (some e.2)) := q
    split at q
    · next ty x hop =>
      injection q with q1 q2
      exact stepV_load hop q2 (run_loadAt_cell q1 (cellsAt_mem (hc L w hw) he)) (hC e.1 (.inr (.inr h)) L w hw)
    · injection q with q1 q2
      cases q1
  · exact hr i h L w hw hL ha
end
end Go.Proofs.Ytiophmmcennjnaa
