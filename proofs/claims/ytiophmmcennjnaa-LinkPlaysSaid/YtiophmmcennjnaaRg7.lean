/- A region as a whole, with values that come up: pure ones, unwanted ones, loads all at once. -/
import Derived.Test.YtiophmmcennjnaaRg6
namespace Go.Proofs.Ytiophmmcennjnaa
open Go.RowKit
set_option linter.unusedVariables false
section
variable {σ : Type}
/-- Each of them holds what is loaded, once what it waits for has come up. -/
def cellsW (ops : Array Oper) (L : Nat → Bool) (w : World) (s : σ) (vs : Nat → Value) : List (Nat × (σ → Addr)) → Prop | [] => True | (i, p) :: l => ((∀ j ∈ afters ops i, L j = true) → w.cell? (p s) = some (vs i)) ∧ cellsW ops L w s vs l
variable {P : Program} {ops : Array Oper} {a : Act} {L : Nat → Bool} {w : World}
theorem cellsW_mem {s : σ} {vs : Nat → Value} : ∀ {l : List (Nat × (σ → Addr))} (h : cellsW ops L w s vs l) {e : Nat × (σ → Addr)}, e ∈ l → (∀ j ∈ afters ops e.1, L j = true) → w.cell? (e.2 s) = some (vs e.1)
  | (j, p) :: l, h, e, he => by
    rcases List.mem_cons.1 he with rfl | he
    · exact h.1
    · exact cellsW_mem h.2 he
theorem steps_of3 (vs : σ → Nat → Value) (C : σ → (Nat → Bool) → World → Prop) (ps qs : List Nat) (ls : List (Nat × (σ → Addr))) (rs : List Nat)
    (hcov : (List.range ops.size).all (fun i => ps.contains i || qs.contains i || (ls.map Prod.fst).contains i || rs.contains i) = true)
    (hpw : ∀ s, ps.map (wantI ops (vs s)) = ps.map fun _ => true) (hp : ∀ s w, ps.map (outV P ops (vs s) a w) = ps.map (ansV (vs s) w))
    (hqw : ∀ s, qs.map (wantI ops (vs s)) = qs.map fun _ => false) (hq : ∀ s, qs.map (vs s) = qs.map fun _ => undef)
    (hlw : ∀ s, ls.map (fun e => wantI ops (vs s) e.1) = ls.map fun _ => true) (hl : ∀ s, ls.map (fun e => ldAt P ops (vs s) a e.1) = ls.map fun e => (true, .pointer (some (e.2 s))))
    (hc : ∀ s L w, C s L w → cellsW ops L w s (vs s) ls)
    (hC : ∀ i, i ∈ ps ∨ i ∈ qs ∨ i ∈ ls.map Prod.fst → ∀ s L w, C s L w → C s (upd L i) w)
    (hr : ∀ i, i ∈ rs → ∀ s L w, C s L w → L i = false → (∀ j ∈ afters ops i, L j = true) → (∀ i, L i = true → ∀ j ∈ afters ops i, L j = true) → wantI ops (vs s) i = true ∧ ∀ o, ops[i]? = some o → stepW P o (view ops (vs s) a i) (fun u w' => ∃ s', (∀ j, L j = true → vs s j = vs s' j) ∧ u = vs s' i ∧ C s' (upd L i) w') w) :
    ∀ i o, ops[i]? = some o → ∀ s L w, C s L w → L i = false → (∀ j ∈ afters ops i, L j = true) → (∀ i, L i = true → ∀ j ∈ afters ops i, L j = true) → if wantV (vs s) o then stepW P o (view ops (vs s) a i) (fun u w' => ∃ s', (∀ j, L j = true → vs s j = vs s' j) ∧ u = vs s' i ∧ C s' (upd L i) w') w else undef = vs s i ∧ C s (upd L i) w := by
  intro i o ho s L w hcc hL ha hdc
  rw [List.all_eq_true] at hcov
  have q := hcov i (List.mem_range.2 (Array.getElem?_eq_some_iff.1 ho).1)
  have ew : wantI ops (vs s) i = wantV (vs s) o := by unfold wantI; rw [ho]
  rw [Bool.or_eq_true, Bool.or_eq_true, Bool.or_eq_true, List.contains_iff_mem, List.contains_iff_mem, List.contains_iff_mem, List.contains_iff_mem] at q
  rcases q with ((q | q) | q) | q
  · have e1 : wantI ops (vs s) i = true := rg_map_mem (hpw s) q
    have e2 := rg_map_mem (hp s w) q
    rw [ew] at e1
    rw [if_pos e1]
    unfold outV ansV at e2
    rw [ho] at e2
    exact stepW_val e2 ⟨s, fun _ _ => rfl, rfl, hC i (.inl q) s L w hcc⟩
  · have e1 : wantI ops (vs s) i = false := rg_map_mem (hqw s) q
    have e2 : vs s i = undef := rg_map_mem (hq s) q
    rw [ew] at e1
    rw [e1]
    exact ⟨e2.symm, hC i (.inr (.inl q)) s L w hcc⟩
  · obtain ⟨e, he, rfl⟩ := List.mem_map.1 q
    have e1 : wantI ops (vs s) e.1 = true := rg_map_mem (hlw s) he
    rw [ew] at e1
    rw [if_pos e1]
    have q2 := rg_map_mem (hl s) he
    unfold ldAt at q2
    rw [ho] at q2
    have q2 : (match o.op with | .load ty x => (plainT (P.underlying ty), view ops (vs s) a e.1 x) | _ => (false, undef)) = (true, .pointer (some (e.2 s))) := q2
    split at q2
    · next ty x hop =>
      injection q2 with q3 q4
      exact stepW_load hop q4 (run_loadAt_cell q3 (cellsW_mem (hc s L w hcc) he ha)) ⟨s, fun _ _ => rfl, rfl, hC e.1 (.inr (.inr q)) s L w hcc⟩
    · injection q2 with q3 q4
      cases q3
  · obtain ⟨e1, h⟩ := hr i q s L w hcc hL ha hdc
    rw [ew] at e1
    rw [if_pos e1]
    exact h o ho
end
end Go.Proofs.Ytiophmmcennjnaa
