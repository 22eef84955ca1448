/- A state: its row, its lists; Same; Clone. -/
import Derived.Test.YtojijeaofkndpaaPt
namespace Go.Proofs.Ytojijeaofkndpaa
open Go.RowKit
set_option linter.unusedSimpArgs false
set_option linter.unusedVariables false

/-- Fourteen counts. -/
def cL (c : Nat → Int) : List Value := (List.range 14).map fun j => .int .u32 (c j)
def cA (c : Nat → Int) : Array Value := (cL c).toArray
theorem cL_len (c : Nat → Int) : (cL c).length = 14 := by simp [cL]
theorem cA_lit (c : Nat → Int) : cA c = #[.int .u32 (c 0), .int .u32 (c 1), .int .u32 (c 2), .int .u32 (c 3), .int .u32 (c 4), .int .u32 (c 5), .int .u32 (c 6), .int .u32 (c 7), .int .u32 (c 8), .int .u32 (c 9), .int .u32 (c 10), .int .u32 (c 11), .int .u32 (c 12), .int .u32 (c 13)] := rfl
theorem cA_info (c : Nat → Int) : (Try.prog.info? 99).map (·.size) = some (cA c).size := by kernel_rfl
theorem cellsU : Try.prog.cellsOf 30 = 1 := by kernel_rfl
theorem infoU : (Try.prog.info? 30).map (fun i => (i.zero, i.size, i.bytes)) = some (some (.int .u32 0), 1, 4) := by kernel_rfl
theorem cA_ne {a b : Nat → Int} {j : Nat} (hj : j < 14) (h : a j ≠ b j) : cA a ≠ cA b := fun e => by
  have := congrArg (fun x => x[j]?) e
  simp [cA, cL, hj] at this
  exact h this

set_option maxRecDepth 100000 in
set_option maxHeartbeats 4000000 in
theorem equal_cc (a b : Nat → Int) (w : World) : (Op.equalIn 10000 99 (.agg (cA a)) (.agg (cA b))).run Try.prog w = .ok (eqB (cA a) (cA b)) w := by
  have ha := fun W => run_isAgg_plain (P := Try.prog) (t := 30) Try.underlying30 rfl W
  obtain ⟨i, hi, _⟩ := info_parts infoU
  have hs := fun W => run_sizeOf (P := Try.prog) (w := W) hi
  rw [cellsU] at hs
  have u27 := Try.underlying30
  have hall : (∀ j, j < 14 → a j = b j) → eqB (cA a) (cA b) = true := fun h => eqB_iff.2 (by
    unfold cA cL
    congr 1
    exact List.map_congr_left fun j hj => by rw [h j (List.mem_range.1 hj)])
  have hno : ∀ j, j < 14 → a j ≠ b j → eqB (cA a) (cA b) = false := fun j hj h => eqB_ne (cA_ne hj h)
  generalize eqB (cA a) (cA b) = R at hall hno
  rw [cA_lit, cA_lit, show (10000 : Nat) = 9999 + 1 from rfl, Op.equalIn]
  simp only [Sem.run_bind, run_underlying Try.underlying99, Result.andThen_ok]
  simp only [Std.Legacy.Range.forIn_eq_forIn_range', Std.Legacy.Range.size, Nat.sub_zero, Nat.add_sub_cancel, Nat.div_one, List.range'_succ, List.range'_zero, List.forIn_cons, List.forIn_nil]
  go_simp
  by_cases h0 : a 0 = b 0
  · skip
    by_cases h1 : a 1 = b 1
    · skip
      by_cases h2 : a 2 = b 2
      · skip
        by_cases h3 : a 3 = b 3
        · skip
          by_cases h4 : a 4 = b 4
          · skip
            by_cases h5 : a 5 = b 5
            · skip
              by_cases h6 : a 6 = b 6
              · skip
                by_cases h7 : a 7 = b 7
                · skip
                  by_cases h8 : a 8 = b 8
                  · skip
                    by_cases h9 : a 9 = b 9
                    · skip
                      by_cases h10 : a 10 = b 10
                      · skip
                        by_cases h11 : a 11 = b 11
                        · skip
                          by_cases h12 : a 12 = b 12
                          · skip
                            by_cases h13 : a 13 = b 13
                            · skip
                              rw [hall (fun j hj => by match j, hj with | 0, _ => exact h0 | 1, _ => exact h1 | 2, _ => exact h2 | 3, _ => exact h3 | 4, _ => exact h4 | 5, _ => exact h5 | 6, _ => exact h6 | 7, _ => exact h7 | 8, _ => exact h8 | 9, _ => exact h9 | 10, _ => exact h10 | 11, _ => exact h11 | 12, _ => exact h12 | 13, _ => exact h13)]
                              simp [h0, h1, h2, h3, h4, h5, h6, h7, h8, h9, h10, h11, h12, h13]
                            · rw [hno 13 (by omega) h13]
                              simp [h0, h1, h2, h3, h4, h5, h6, h7, h8, h9, h10, h11, h12, h13]
                          · rw [hno 12 (by omega) h12]
                            simp [h0, h1, h2, h3, h4, h5, h6, h7, h8, h9, h10, h11, h12]
                        · rw [hno 11 (by omega) h11]
                          simp [h0, h1, h2, h3, h4, h5, h6, h7, h8, h9, h10, h11]
                      · rw [hno 10 (by omega) h10]
                        simp [h0, h1, h2, h3, h4, h5, h6, h7, h8, h9, h10]
                    · rw [hno 9 (by omega) h9]
                      simp [h0, h1, h2, h3, h4, h5, h6, h7, h8, h9]
                  · rw [hno 8 (by omega) h8]
                    simp [h0, h1, h2, h3, h4, h5, h6, h7, h8]
                · rw [hno 7 (by omega) h7]
                  simp [h0, h1, h2, h3, h4, h5, h6, h7]
              · rw [hno 6 (by omega) h6]
                simp [h0, h1, h2, h3, h4, h5, h6]
            · rw [hno 5 (by omega) h5]
              simp [h0, h1, h2, h3, h4, h5]
          · rw [hno 4 (by omega) h4]
            simp [h0, h1, h2, h3, h4]
        · rw [hno 3 (by omega) h3]
          simp [h0, h1, h2, h3]
      · rw [hno 2 (by omega) h2]
        simp [h0, h1, h2]
    · rw [hno 1 (by omega) h1]
      simp [h0, h1]
  · rw [hno 0 (by omega) h0]
    simp [h0]

/-- A state. -/
structure St where
  cf : Cf
  po : List Po
  vl : List Vr
  st : List Sr
  fd : List Fr
  c : Nat → Int
  beat : Int
def stL (s : St) (v1 v2 v3 v4 : Value) : List Value := cfC s.cf ++ ([v1, v2, v3, v4] ++ (cL s.c ++ [.int .i64 s.beat]))
def stA (s : St) (v1 v2 v3 v4 : Value) : Array Value := (stL s v1 v2 v3 v4).toArray
abbrev stV (s : St) (v1 v2 v3 v4 : Value) : Value := .agg (stA s v1 v2 v3 v4)
theorem st_size (s : St) (v1 v2 v3 v4 : Value) : (stA s v1 v2 v3 v4).size = 25 := rfl
theorem size41 : (Try.prog.info? 101).map (·.size) = some 25 := by kernel_rfl
theorem st_info (s : St) (v1 v2 v3 v4 : Value) : (Try.prog.info? 101).map (·.size) = some (stA s v1 v2 v3 v4).size := size41
theorem st_cells {w : World} {g : Nat} {s : St} {v1 v2 v3 v4 : Value} (h : Blk w g (stA s v1 v2 v3 v4) 101) : w.cell? ⟨g, 6, none⟩ = some v1 ∧ w.cell? ⟨g, 7, none⟩ = some v2 ∧ w.cell? ⟨g, 8, none⟩ = some v3 ∧ w.cell? ⟨g, 9, none⟩ = some v4 ∧ w.cell? ⟨g, 24, none⟩ = some (.int .i64 s.beat) :=
  ⟨h.cell 6, h.cell 7, h.cell 8, h.cell 9, h.cell 24⟩
theorem st_cf (s : St) (v1 v2 v3 v4 : Value) : ∀ i u, (cfC s.cf)[i]? = some u → (stA s v1 v2 v3 v4)[0 + i]? = some u := fun i u h => by
  have hi : i < (cfC s.cf).length := (List.getElem?_eq_some_iff.1 h).1
  unfold stA stL
  rw [Nat.zero_add, List.getElem?_toArray, List.getElem?_append_left hi, h]
theorem st_cc (s : St) (v1 v2 v3 v4 : Value) : ∀ i u, (cL s.c)[i]? = some u → (stA s v1 v2 v3 v4)[10 + i]? = some u := fun i u h => by
  have hi : i < (cL s.c).length := (List.getElem?_eq_some_iff.1 h).1
  unfold stA stL
  rw [List.getElem?_toArray, List.getElem?_append_right (by rw [cf_len]; omega), cf_len, List.getElem?_append_right (by simp; omega), List.getElem?_append_left (by simp; omega), ← h]
  congr 1
  simp
  omega
/-- A state's lists, of the call's own. -/
structure OwS (w : World) (B : Nat) (s : St) (v1 v2 v3 v4 : Value) : Prop where
  o1 : Own w B 62 21 poC v1 s.po
  o2 : Own w B 107 3 vrC v2 s.vl
  o3 : Own w B 114 8 srC v3 s.st
  o4 : Own w B 133 9 frC v4 s.fd
  few : s.po.length ≤ 100 ∧ s.vl.length ≤ 100 ∧ s.st.length ≤ 100 ∧ s.fd.length ≤ 100
theorem OwS.next {w w' : World} {B : Nat} {s : St} {v1 v2 v3 v4 : Value} (h : OwS w B s v1 v2 v3 v4) (hb : Below w.heap.size w w') : OwS w' B s v1 v2 v3 v4 := ⟨h.o1.next hb, h.o2.next hb, h.o3.next hb, h.o4.next hb, h.few⟩
theorem Own.oneCell {α : Type} {enc : α → List Value} {size base : Nat} {w : World} {e : TypeId} {v : Value} {l : List α} (h : Own w base e size enc v l) : v.oneCell' = true := by
  rcases h.cases with ⟨rfl, -⟩ | ⟨g, cap, rfl, -⟩ <;> rfl
theorem st_one {w : World} {B : Nat} {s : St} {v1 v2 v3 v4 : Value} (h : OwS w B s v1 v2 v3 v4) : (stA s v1 v2 v3 v4).all (·.oneCell') = true := by
  have h1 := h.o1.oneCell
  have h2 := h.o2.oneCell
  have h3 := h.o3.oneCell
  have h4 := h.o4.oneCell
  rw [Array.all_eq_true']
  intro u hu
  simp only [stA, stL, List.mem_toArray, List.mem_append, List.mem_cons, List.not_mem_nil, or_false, cL, List.mem_map] at hu
  rcases hu with hu | (rfl | rfl | rfl | rfl) | ⟨j, -, rfl⟩ | rfl
  · exact cf_one s.cf u hu
  · exact h1
  · exact h2
  · exact h3
  · exact h4
  · rfl
  · rfl
/-- Are both states the same? -/
noncomputable def sameB (s t : St) : Bool := eqB s.cf t.cf && (eqB s.po t.po && (eqB s.vl t.vl && (eqB s.st t.st && (eqB s.fd t.fd && (eqB (cA s.c) (cA t.c) && eqB s.beat t.beat)))))
theorem sameB_self (s : St) : sameB s s = true := by unfold sameB; simp [eqB_self]
theorem sameB_comm (s t : St) : sameB s t = sameB t s := by
  unfold sameB
  rw [eqB_comm s.cf, eqB_comm s.po, eqB_comm s.vl, eqB_comm s.st, eqB_comm s.fd, eqB_comm (cA s.c), eqB_comm s.beat]

end Go.Proofs.Ytojijeaofkndpaa
