/- A state: its row, its lists; Same; Clone. -/
import Derived.Test.YtpbdamnlfpfclaaPt
namespace Go.Proofs.Ytpbdamnlfpfclaa
open Go.RowKit
set_option linter.unusedSimpArgs false
set_option linter.unusedVariables false

/-- Fourteen counts. -/
def cL (c : Nat → Int) : List Value := (List.range 14).map fun j => .int .u32 (c j)
def cA (c : Nat → Int) : Array Value := (cL c).toArray
theorem cL_len (c : Nat → Int) : (cL c).length = 14 := by simp [cL]
theorem cA_lit (c : Nat → Int) : cA c = #[.int .u32 (c 0), .int .u32 (c 1), .int .u32 (c 2), .int .u32 (c 3), .int .u32 (c 4), .int .u32 (c 5), .int .u32 (c 6), .int .u32 (c 7), .int .u32 (c 8), .int .u32 (c 9), .int .u32 (c 10), .int .u32 (c 11), .int .u32 (c 12), .int .u32 (c 13)] := rfl
theorem cA_info (c : Nat → Int) : (Try.prog.info? 39).map (·.size) = some (cA c).size := by kernel_rfl
theorem cellsU : Try.prog.cellsOf 27 = 1 := by kernel_rfl
theorem infoU : (Try.prog.info? 27).map (fun i => (i.zero, i.size, i.bytes)) = some (some (.int .u32 0), 1, 4) := by kernel_rfl
theorem cA_ne {a b : Nat → Int} {j : Nat} (hj : j < 14) (h : a j ≠ b j) : cA a ≠ cA b := fun e => by
  have := congrArg (fun x => x[j]?) e
  simp [cA, cL, hj] at this
  exact h this

set_option maxRecDepth 100000 in
set_option maxHeartbeats 4000000 in
theorem equal_cc (a b : Nat → Int) (w : World) : (Op.equalIn 10000 39 (.agg (cA a)) (.agg (cA b))).run Try.prog w = .ok (eqB (cA a) (cA b)) w := by
  have ha := fun W => run_isAgg_plain (P := Try.prog) (t := 27) Try.underlying27 rfl W
  obtain ⟨i, hi, _⟩ := info_parts infoU
  have hs := fun W => run_sizeOf (P := Try.prog) (w := W) hi
  rw [cellsU] at hs
  have u27 := Try.underlying27
  have hall : (∀ j, j < 14 → a j = b j) → eqB (cA a) (cA b) = true := fun h => eqB_iff.2 (by
    unfold cA cL
    congr 1
    exact List.map_congr_left fun j hj => by rw [h j (List.mem_range.1 hj)])
  have hno : ∀ j, j < 14 → a j ≠ b j → eqB (cA a) (cA b) = false := fun j hj h => eqB_ne (cA_ne hj h)
  generalize eqB (cA a) (cA b) = R at hall hno
  rw [cA_lit, cA_lit, show (10000 : Nat) = 9999 + 1 from rfl, Op.equalIn]
  simp only [Sem.run_bind, run_underlying Try.underlying39, Result.andThen_ok]
  simp only [Std.Legacy.Range.forIn_eq_forIn_range', Std.Legacy.Range.size, Nat.sub_zero, Nat.add_sub_cancel, Nat.div_one, List.range'_succ, List.range'_zero, List.forIn_cons, List.forIn_nil]
  go_simp
  by_cases h0 : a 0 = b 0
  · skip
    by_cases h1 : a 1 = b 1
    · skip
      by_cases h2 : a 2 = b 2
      · skip
        by_cases h3 : a 3 = b 3
        · skip
          by_cases h4 : a 4 = b 4
          · skip
            by_cases h5 : a 5 = b 5
            · skip
              by_cases h6 : a 6 = b 6
              · skip
                by_cases h7 : a 7 = b 7
                · skip
                  by_cases h8 : a 8 = b 8
                  · skip
                    by_cases h9 : a 9 = b 9
                    · skip
                      by_cases h10 : a 10 = b 10
                      · skip
                        by_cases h11 : a 11 = b 11
                        · skip
                          by_cases h12 : a 12 = b 12
                          · skip
                            by_cases h13 : a 13 = b 13
                            · skip
                              rw [hall (fun j hj => by match j, hj with | 0, _ => exact h0 | 1, _ => exact h1 | 2, _ => exact h2 | 3, _ => exact h3 | 4, _ => exact h4 | 5, _ => exact h5 | 6, _ => exact h6 | 7, _ => exact h7 | 8, _ => exact h8 | 9, _ => exact h9 | 10, _ => exact h10 | 11, _ => exact h11 | 12, _ => exact h12 | 13, _ => exact h13)]
                              simp [h0, h1, h2, h3, h4, h5, h6, h7, h8, h9, h10, h11, h12, h13]
                            · rw [hno 13 (by omega) h13]
                              simp [h0, h1, h2, h3, h4, h5, h6, h7, h8, h9, h10, h11, h12, h13]
                          · rw [hno 12 (by omega) h12]
                            simp [h0, h1, h2, h3, h4, h5, h6, h7, h8, h9, h10, h11, h12]
                        · rw [hno 11 (by omega) h11]
                          simp [h0, h1, h2, h3, h4, h5, h6, h7, h8, h9, h10, h11]
                      · rw [hno 10 (by omega) h10]
                        simp [h0, h1, h2, h3, h4, h5, h6, h7, h8, h9, h10]
                    · rw [hno 9 (by omega) h9]
                      simp [h0, h1, h2, h3, h4, h5, h6, h7, h8, h9]
                  · rw [hno 8 (by omega) h8]
                    simp [h0, h1, h2, h3, h4, h5, h6, h7, h8]
                · rw [hno 7 (by omega) h7]
                  simp [h0, h1, h2, h3, h4, h5, h6, h7]
              · rw [hno 6 (by omega) h6]
                simp [h0, h1, h2, h3, h4, h5, h6]
            · rw [hno 5 (by omega) h5]
              simp [h0, h1, h2, h3, h4, h5]
          · rw [hno 4 (by omega) h4]
            simp [h0, h1, h2, h3, h4]
        · rw [hno 3 (by omega) h3]
          simp [h0, h1, h2, h3]
      · rw [hno 2 (by omega) h2]
        simp [h0, h1, h2]
    · rw [hno 1 (by omega) h1]
      simp [h0, h1]
  · rw [hno 0 (by omega) h0]
    simp [h0]

/-- A state. -/
structure St where
  cf : Cf
  po : List Po
  vl : List Vr
  st : List Sr
  fd : List Fr
  c : Nat → Int
  beat : Int
def stL (s : St) (v1 v2 v3 v4 : Value) : List Value := cfC s.cf ++ ([v1, v2, v3, v4] ++ (cL s.c ++ [.int .i64 s.beat]))
def stA (s : St) (v1 v2 v3 v4 : Value) : Array Value := (stL s v1 v2 v3 v4).toArray
abbrev stV (s : St) (v1 v2 v3 v4 : Value) : Value := .agg (stA s v1 v2 v3 v4)
theorem st_size (s : St) (v1 v2 v3 v4 : Value) : (stA s v1 v2 v3 v4).size = 25 := rfl
theorem size41 : (Try.prog.info? 41).map (·.size) = some 25 := by kernel_rfl
theorem st_info (s : St) (v1 v2 v3 v4 : Value) : (Try.prog.info? 41).map (·.size) = some (stA s v1 v2 v3 v4).size := size41
theorem st_cells {w : World} {g : Nat} {s : St} {v1 v2 v3 v4 : Value} (h : Blk w g (stA s v1 v2 v3 v4) 41) : w.cell? ⟨g, 6, none⟩ = some v1 ∧ w.cell? ⟨g, 7, none⟩ = some v2 ∧ w.cell? ⟨g, 8, none⟩ = some v3 ∧ w.cell? ⟨g, 9, none⟩ = some v4 ∧ w.cell? ⟨g, 24, none⟩ = some (.int .i64 s.beat) :=
  ⟨h.cell 6, h.cell 7, h.cell 8, h.cell 9, h.cell 24⟩
theorem st_cf (s : St) (v1 v2 v3 v4 : Value) : ∀ i u, (cfC s.cf)[i]? = some u → (stA s v1 v2 v3 v4)[0 + i]? = some u := fun i u h => by
  have hi : i < (cfC s.cf).length := (List.getElem?_eq_some_iff.1 h).1
  unfold stA stL
  rw [Nat.zero_add, List.getElem?_toArray, List.getElem?_append_left hi, h]
theorem st_cc (s : St) (v1 v2 v3 v4 : Value) : ∀ i u, (cL s.c)[i]? = some u → (stA s v1 v2 v3 v4)[10 + i]? = some u := fun i u h => by
  have hi : i < (cL s.c).length := (List.getElem?_eq_some_iff.1 h).1
  unfold stA stL
  rw [List.getElem?_toArray, List.getElem?_append_right (by rw [cf_len]; omega), cf_len, List.getElem?_append_right (by simp; omega), List.getElem?_append_left (by simp; omega), ← h]
  congr 1
  simp
  omega
/-- A state's lists, of the call's own. -/
structure OwS (w : World) (B : Nat) (s : St) (v1 v2 v3 v4 : Value) : Prop where
  o1 : Own w B 50 21 poC v1 s.po
  o2 : Own w B 54 3 vrC v2 s.vl
  o3 : Own w B 60 8 srC v3 s.st
  o4 : Own w B 64 9 frC v4 s.fd
  few : s.po.length ≤ 100 ∧ s.vl.length ≤ 100 ∧ s.st.length ≤ 100 ∧ s.fd.length ≤ 100
theorem OwS.next {w w' : World} {B : Nat} {s : St} {v1 v2 v3 v4 : Value} (h : OwS w B s v1 v2 v3 v4) (hb : Below w.heap.size w w') : OwS w' B s v1 v2 v3 v4 := ⟨h.o1.next hb, h.o2.next hb, h.o3.next hb, h.o4.next hb, h.few⟩
theorem Own.oneCell {α : Type} {enc : α → List Value} {size base : Nat} {w : World} {e : TypeId} {v : Value} {l : List α} (h : Own w base e size enc v l) : v.oneCell' = true := by
  rcases h.cases with ⟨rfl, -⟩ | ⟨g, cap, rfl, -⟩ <;> rfl
theorem st_one {w : World} {B : Nat} {s : St} {v1 v2 v3 v4 : Value} (h : OwS w B s v1 v2 v3 v4) : (stA s v1 v2 v3 v4).all (·.oneCell') = true := by
  have h1 := h.o1.oneCell
  have h2 := h.o2.oneCell
  have h3 := h.o3.oneCell
  have h4 := h.o4.oneCell
  rw [Array.all_eq_true']
  intro u hu
  simp only [stA, stL, List.mem_toArray, List.mem_append, List.mem_cons, List.not_mem_nil, or_false, cL, List.mem_map] at hu
  rcases hu with hu | (rfl | rfl | rfl | rfl) | ⟨j, -, rfl⟩ | rfl
  · exact cf_one s.cf u hu
  · exact h1
  · exact h2
  · exact h3
  · exact h4
  · rfl
  · rfl
/-- Are both states the same? -/
noncomputable def sameB (s t : St) : Bool := eqB s.cf t.cf && (eqB s.po t.po && (eqB s.vl t.vl && (eqB s.st t.st && (eqB s.fd t.fd && (eqB (cA s.c) (cA t.c) && eqB s.beat t.beat)))))
theorem sameB_self (s : St) : sameB s s = true := by unfold sameB; simp [eqB_self]
theorem sameB_comm (s t : St) : sameB s t = sameB t s := by
  unfold sameB
  rw [eqB_comm s.cf, eqB_comm s.po, eqB_comm s.vl, eqB_comm s.st, eqB_comm s.fd, eqB_comm (cA s.c), eqB_comm s.beat]

set_option maxRecDepth 100000 in
set_option maxHeartbeats 16000000 in
theorem same_any {w : World} {B1 B2 : Nat} {s t : St} {v1 v2 v3 v4 u1 u2 u3 u4 : Value} (hs : OwS w B1 s v1 v2 v3 v4) (ht : OwS w B2 t u1 u2 u3 u4) :
    Calls Try.prog 10 #[stV s v1 v2 v3 v4, stV t u1 u2 u3 u4] w fun e w' => e = .returned (.bool (sameB s t)) ∧ Below w.heap.size w w' := by
  obtain ⟨x, hx⟩ : ∃ x, x = stA s v1 v2 v3 v4 := ⟨_, rfl⟩
  obtain ⟨y, hy⟩ : ∃ y, y = stA t u1 u2 u3 u4 := ⟨_, rfl⟩
  obtain ⟨g, hg⟩ : ∃ g, g = w.heap.size := ⟨_, rfl⟩
  obtain ⟨w1, hw1⟩ : ∃ w1, w1 = (w.alloc (.cells x 41)).alloc (.cells y 41) := ⟨_, rfl⟩
  have b1 : Below w.heap.size w w1 := by rw [hw1]; exact ((Below.refl _ _).alloc (Nat.le_refl _) _).alloc (by simp) _
  have B1' := Lib.hid b1
  have k1 : Blk w1 g (stA s v1 v2 v3 v4) 41 := by rw [hw1, hg, ← hx]; exact (Blk.new _ _ _).alloc _
  have k2 : Blk w1 (g + 1) (stA t u1 u2 u3 u4) 41 := by
    have := Blk.new (w.alloc (.cells x 41)) y 41
    rw [hw1, hg, ← hy]
    simpa using this
  have KA := Lib.hid (show ∀ W, Below w1.heap.size w1 W → Blk W g (stA s v1 v2 v3 v4) 41 from fun W hW => k1.below hW k1.lt)
  have KB := Lib.hid (show ∀ W, Below w1.heap.size w1 W → Blk W (g + 1) (stA t u1 u2 u3 u4) 41 from fun W hW => k2.below hW k2.lt)
  have OA := Lib.hid (show ∀ W, Below w1.heap.size w1 W → OwS W B1 s v1 v2 v3 v4 from fun W hW => (hs.next b1).next hW)
  have OB := Lib.hid (show ∀ W, Below w1.heap.size w1 W → OwS W B2 t u1 u2 u3 u4 from fun W hW => (ht.next b1).next hW)
  have HW := Lib.hid hw1
  have HG := Lib.hid hg
  obtain ⟨R, hR⟩ : ∃ R, R = sameB s t := ⟨_, rfl⟩
  obtain ⟨x1, hx1⟩ : ∃ x, x = cfA s.cf := ⟨_, rfl⟩
  obtain ⟨y1, hy1⟩ : ∃ x, x = cfA t.cf := ⟨_, rfl⟩
  obtain ⟨x6, hx6⟩ : ∃ x, x = cA s.c := ⟨_, rfl⟩
  obtain ⟨y6, hy6⟩ : ∃ x, x = cA t.c := ⟨_, rfl⟩
  obtain ⟨r1, h1⟩ : ∃ r, r = eqB s.cf t.cf := ⟨_, rfl⟩
  obtain ⟨r2, h2⟩ : ∃ r, r = eqB s.po t.po := ⟨_, rfl⟩
  obtain ⟨r3, h3⟩ : ∃ r, r = eqB s.vl t.vl := ⟨_, rfl⟩
  obtain ⟨r4, h4⟩ : ∃ r, r = eqB s.st t.st := ⟨_, rfl⟩
  obtain ⟨r5, h5⟩ : ∃ r, r = eqB s.fd t.fd := ⟨_, rfl⟩
  obtain ⟨r6, h6⟩ : ∃ r, r = eqB (cA s.c) (cA t.c) := ⟨_, rfl⟩
  obtain ⟨r7, h7⟩ : ∃ r, r = eqB s.beat t.beat := ⟨_, rfl⟩
  have HR := Lib.hid (show R = (r1 && (r2 && (r3 && (r4 && (r5 && (r6 && r7)))))) by rw [hR, h1, h2, h3, h4, h5, h6, h7]; rfl)
  have E1 : ∀ W, (Op.equalIn 10000 34 (.agg x1) (.agg y1)).run Try.prog W = .ok r1 W := fun W => by rw [hx1, hy1, h1]; exact equal_cf _ _ W
  have E6 : ∀ W, (Op.equalIn 10000 39 (.agg x6) (.agg y6)).run Try.prog W = .ok r6 W := fun W => by rw [hx6, hy6, h6]; exact equal_cc _ _ W
  obtain ⟨bx, hbx⟩ : ∃ b, b = s.beat := ⟨_, rfl⟩
  obtain ⟨by', hby⟩ : ∃ b, b = t.beat := ⟨_, rfl⟩
  have E7 : (bx == by') = r7 := by rw [h7, hbx, hby, Bool.eq_iff_iff, eqB_iff]; simp
  have C17 := Lib.hid (show ∀ W, Below w1.heap.size w1 W → Calls Try.prog 17 #[v1, u1] W fun e w' => e = .returned (.bool r2) ∧ Below W.heap.size W w' from fun W hW => by rw [h2]; exact eqs_po (OA.out W hW).o1 (OB.out W hW).o1)
  have C18 := Lib.hid (show ∀ W, Below w1.heap.size w1 W → Calls Try.prog 18 #[v2, u2] W fun e w' => e = .returned (.bool r3) ∧ Below W.heap.size W w' from fun W hW => by rw [h3]; exact eqs_vr (OA.out W hW).o2 (OB.out W hW).o2)
  have C19 := Lib.hid (show ∀ W, Below w1.heap.size w1 W → Calls Try.prog 19 #[v3, u3] W fun e w' => e = .returned (.bool r4) ∧ Below W.heap.size W w' from fun W hW => by rw [h4]; exact eqs_sr (OA.out W hW).o3 (OB.out W hW).o3)
  have C20 := Lib.hid (show ∀ W, Below w1.heap.size w1 W → Calls Try.prog 20 #[v4, u4] W fun e w' => e = .returned (.bool r5) ∧ Below W.heap.size W w' from fun W hW => by rw [h5]; exact eqs_fr (OA.out W hW).o4 (OB.out W hW).o4)
  have QQ := Lib.hid (show ∀ W, Below w1.heap.size w1 W → (W.cell? ⟨g, 6, none⟩ = some v1 ∧ W.cell? ⟨g, 7, none⟩ = some v2 ∧ W.cell? ⟨g, 8, none⟩ = some v3 ∧ W.cell? ⟨g, 9, none⟩ = some v4 ∧ W.cell? ⟨g, 24, none⟩ = some (.int .i64 bx)) ∧ (W.cell? ⟨g + 1, 6, none⟩ = some u1 ∧ W.cell? ⟨g + 1, 7, none⟩ = some u2 ∧ W.cell? ⟨g + 1, 8, none⟩ = some u3 ∧ W.cell? ⟨g + 1, 9, none⟩ = some u4 ∧ W.cell? ⟨g + 1, 24, none⟩ = some (.int .i64 by')) from fun W hW => by rw [hbx, hby]; exact ⟨st_cells (KA.out W hW), st_cells (KB.out W hW)⟩)
  have LA := Lib.hid (show ∀ W (ty : TypeId) (o : Oper) (a : Act) (p : Operand), o.op = .load 34 p → a.eval p = .pointer (some ⟨g, 0, none⟩) → Below w1.heap.size w1 W → (execOp a.eval o).run Try.prog W = .ok (.value (.agg x1)) W from fun W _ o a p ho hp hW => by rw [hx1]; exact run_loadPart_of 34 p ho g 0 hp 41 _ (cfC s.cf) _ (KA.out W hW) (st_cf s v1 v2 v3 v4) Try.underlying34 rfl (cf_info s.cf))
  have LB := Lib.hid (show ∀ W (ty : TypeId) (o : Oper) (a : Act) (p : Operand), o.op = .load 34 p → a.eval p = .pointer (some ⟨g + 1, 0, none⟩) → Below w1.heap.size w1 W → (execOp a.eval o).run Try.prog W = .ok (.value (.agg y1)) W from fun W _ o a p ho hp hW => by rw [hy1]; exact run_loadPart_of 34 p ho (g + 1) 0 hp 41 _ (cfC t.cf) _ (KB.out W hW) (st_cf t u1 u2 u3 u4) Try.underlying34 rfl (cf_info t.cf))
  have MA := Lib.hid (show ∀ W (ty : TypeId) (o : Oper) (a : Act) (p : Operand), o.op = .load 39 p → a.eval p = .pointer (some ⟨g, 10, none⟩) → Below w1.heap.size w1 W → (execOp a.eval o).run Try.prog W = .ok (.value (.agg x6)) W from fun W _ o a p ho hp hW => by rw [hx6]; exact run_loadPart_of 39 p ho g 10 hp 41 _ (cL s.c) _ (KA.out W hW) (st_cc s v1 v2 v3 v4) Try.underlying39 rfl (cA_info s.c))
  have MB := Lib.hid (show ∀ W (ty : TypeId) (o : Oper) (a : Act) (p : Operand), o.op = .load 39 p → a.eval p = .pointer (some ⟨g + 1, 10, none⟩) → Below w1.heap.size w1 W → (execOp a.eval o).run Try.prog W = .ok (.value (.agg y6)) W from fun W _ o a p ho hp hW => by rw [hy6]; exact run_loadPart_of 39 p ho (g + 1) 10 hp 41 _ (cL t.c) _ (KB.out W hW) (st_cc t u1 u2 u3 u4) Try.underlying39 rfl (cA_info t.c))
  have c1 := (OA.out w1 (Below.refl _ _)).o1.oneCell
  have SV := Lib.hid (show (∃ a n c, v1 = .slice a n c) ∧ (∃ a n c, v2 = .slice a n c) ∧ (∃ a n c, v3 = .slice a n c) ∧ (∃ a n c, v4 = .slice a n c) ∧ (∃ a n c, u1 = .slice a n c) ∧ (∃ a n c, u2 = .slice a n c) ∧ (∃ a n c, u3 = .slice a n c) ∧ (∃ a n c, u4 = .slice a n c) from by
    obtain ⟨a1, n1, e1, -⟩ := hs.o1.shape
    obtain ⟨a2, n2, e2, -⟩ := hs.o2.shape
    obtain ⟨a3, n3, e3, -⟩ := hs.o3.shape
    obtain ⟨a4, n4, e4, -⟩ := hs.o4.shape
    obtain ⟨a5, n5, e5, -⟩ := ht.o1.shape
    obtain ⟨a6, n6, e6, -⟩ := ht.o2.shape
    obtain ⟨a7, n7, e7, -⟩ := ht.o3.shape
    obtain ⟨a8, n8, e8, -⟩ := ht.o4.shape
    exact ⟨⟨_, _, _, e1⟩, ⟨_, _, _, e2⟩, ⟨_, _, _, e3⟩, ⟨_, _, _, e4⟩, ⟨_, _, _, e5⟩, ⟨_, _, _, e6⟩, ⟨_, _, _, e7⟩, ⟨_, _, _, e8⟩⟩)
  show Calls Try.prog 10 #[.agg (stA s v1 v2 v3 v4), .agg (stA t u1 u2 u3 u4)] w fun e w' => e = .returned (.bool (sameB s t)) ∧ Below w.heap.size w w'
  rw [← hx, ← hy, ← hR]
  clear hx hy hg hw1 b1 k1 k2 hR hx1 hy1 hx6 hy6 h1 h2 h3 h4 h5 h6 h7 hbx hby c1 hs ht
  obtain ⟨⟨a1, n1, m1, rfl⟩, ⟨a2, n2, m2, rfl⟩, ⟨a3, n3, m3, rfl⟩, ⟨a4, n4, m4, rfl⟩, ⟨a5, n5, m5, rfl⟩, ⟨a6, n6, m6, rfl⟩, ⟨a7, n7, m7, rfl⟩, ⟨a8, n8, m8, rfl⟩⟩ := SV.out
  clear SV
  go_enter Try.func10, Try.ntmps10
  go_upto_region 1 with fail
  rw [← HW.out, ← HG.out]
  have hb : Below w1.heap.size w1 w1 := Below.refl _ _
  obtain ⟨⟨q6, q7, q8, q9, q24⟩, p6, p7, p8, p9, p24⟩ := QQ.out w1 hb
  cases r1 with
  | false =>
    go_wp2_with (first | (refine wpList_val (.agg x1) (by rfl) (LA.out _ 34 _ _ _ rfl rfl (by assumption)) ?_) | (refine wpList_val (.agg y1) (by rfl) (LB.out _ 34 _ _ _ rfl rfl (by assumption)) ?_) | (refine wpList_val (.agg x6) (by rfl) (MA.out _ 39 _ _ _ rfl rfl (by assumption)) ?_) | (refine wpList_val (.agg y6) (by rfl) (MB.out _ 39 _ _ _ rfl rfl (by assumption)) ?_) | (go_at_call 17; with_reducible refine (C17.out _ (by assumption)).mono ?_; rintro e w17 ⟨rfl, hc17⟩; have hb17 := (hb).trans (hc17.mono (hb).size); obtain ⟨⟨q617, q717, q817, q917, q2417⟩, p617, p717, p817, p917, p2417⟩ := QQ.out _ hb17; clear hc17) | (go_at_call 18; with_reducible refine (C18.out _ (by assumption)).mono ?_; rintro e w18 ⟨rfl, hc18⟩; have hb18 := (hb17).trans (hc18.mono (hb17).size); obtain ⟨⟨q618, q718, q818, q918, q2418⟩, p618, p718, p818, p918, p2418⟩ := QQ.out _ hb18; clear hc18) | (go_at_call 19; with_reducible refine (C19.out _ (by assumption)).mono ?_; rintro e w19 ⟨rfl, hc19⟩; have hb19 := (hb18).trans (hc19.mono (hb18).size); obtain ⟨⟨q619, q719, q819, q919, q2419⟩, p619, p719, p819, p919, p2419⟩ := QQ.out _ hb19; clear hc19) | (go_at_call 20; with_reducible refine (C20.out _ (by assumption)).mono ?_; rintro e w20 ⟨rfl, hc20⟩; have hb20 := (hb19).trans (hc20.mono (hb19).size); obtain ⟨⟨q620, q720, q820, q920, q2420⟩, p620, p720, p820, p920, p2420⟩ := QQ.out _ hb20; clear hc20))
    go_ret
    exact ⟨by rw [HR.out]; rfl, B1'.out.trans (hb.mono B1'.out.size)⟩
  | true =>
    cases r2 with
    | false =>
      go_wp2_with (first | (refine wpList_val (.agg x1) (by rfl) (LA.out _ 34 _ _ _ rfl rfl (by assumption)) ?_) | (refine wpList_val (.agg y1) (by rfl) (LB.out _ 34 _ _ _ rfl rfl (by assumption)) ?_) | (refine wpList_val (.agg x6) (by rfl) (MA.out _ 39 _ _ _ rfl rfl (by assumption)) ?_) | (refine wpList_val (.agg y6) (by rfl) (MB.out _ 39 _ _ _ rfl rfl (by assumption)) ?_) | (go_at_call 17; with_reducible refine (C17.out _ (by assumption)).mono ?_; rintro e w17 ⟨rfl, hc17⟩; have hb17 := (hb).trans (hc17.mono (hb).size); obtain ⟨⟨q617, q717, q817, q917, q2417⟩, p617, p717, p817, p917, p2417⟩ := QQ.out _ hb17; clear hc17) | (go_at_call 18; with_reducible refine (C18.out _ (by assumption)).mono ?_; rintro e w18 ⟨rfl, hc18⟩; have hb18 := (hb17).trans (hc18.mono (hb17).size); obtain ⟨⟨q618, q718, q818, q918, q2418⟩, p618, p718, p818, p918, p2418⟩ := QQ.out _ hb18; clear hc18) | (go_at_call 19; with_reducible refine (C19.out _ (by assumption)).mono ?_; rintro e w19 ⟨rfl, hc19⟩; have hb19 := (hb18).trans (hc19.mono (hb18).size); obtain ⟨⟨q619, q719, q819, q919, q2419⟩, p619, p719, p819, p919, p2419⟩ := QQ.out _ hb19; clear hc19) | (go_at_call 20; with_reducible refine (C20.out _ (by assumption)).mono ?_; rintro e w20 ⟨rfl, hc20⟩; have hb20 := (hb19).trans (hc20.mono (hb19).size); obtain ⟨⟨q620, q720, q820, q920, q2420⟩, p620, p720, p820, p920, p2420⟩ := QQ.out _ hb20; clear hc20))
      go_ret
      exact ⟨by rw [HR.out]; rfl, B1'.out.trans (hb17.mono B1'.out.size)⟩
    | true =>
      cases r3 with
      | false =>
        go_wp2_with (first | (refine wpList_val (.agg x1) (by rfl) (LA.out _ 34 _ _ _ rfl rfl (by assumption)) ?_) | (refine wpList_val (.agg y1) (by rfl) (LB.out _ 34 _ _ _ rfl rfl (by assumption)) ?_) | (refine wpList_val (.agg x6) (by rfl) (MA.out _ 39 _ _ _ rfl rfl (by assumption)) ?_) | (refine wpList_val (.agg y6) (by rfl) (MB.out _ 39 _ _ _ rfl rfl (by assumption)) ?_) | (go_at_call 17; with_reducible refine (C17.out _ (by assumption)).mono ?_; rintro e w17 ⟨rfl, hc17⟩; have hb17 := (hb).trans (hc17.mono (hb).size); obtain ⟨⟨q617, q717, q817, q917, q2417⟩, p617, p717, p817, p917, p2417⟩ := QQ.out _ hb17; clear hc17) | (go_at_call 18; with_reducible refine (C18.out _ (by assumption)).mono ?_; rintro e w18 ⟨rfl, hc18⟩; have hb18 := (hb17).trans (hc18.mono (hb17).size); obtain ⟨⟨q618, q718, q818, q918, q2418⟩, p618, p718, p818, p918, p2418⟩ := QQ.out _ hb18; clear hc18) | (go_at_call 19; with_reducible refine (C19.out _ (by assumption)).mono ?_; rintro e w19 ⟨rfl, hc19⟩; have hb19 := (hb18).trans (hc19.mono (hb18).size); obtain ⟨⟨q619, q719, q819, q919, q2419⟩, p619, p719, p819, p919, p2419⟩ := QQ.out _ hb19; clear hc19) | (go_at_call 20; with_reducible refine (C20.out _ (by assumption)).mono ?_; rintro e w20 ⟨rfl, hc20⟩; have hb20 := (hb19).trans (hc20.mono (hb19).size); obtain ⟨⟨q620, q720, q820, q920, q2420⟩, p620, p720, p820, p920, p2420⟩ := QQ.out _ hb20; clear hc20))
        go_ret
        exact ⟨by rw [HR.out]; rfl, B1'.out.trans (hb18.mono B1'.out.size)⟩
      | true =>
        cases r4 with
        | false =>
          go_wp2_with (first | (refine wpList_val (.agg x1) (by rfl) (LA.out _ 34 _ _ _ rfl rfl (by assumption)) ?_) | (refine wpList_val (.agg y1) (by rfl) (LB.out _ 34 _ _ _ rfl rfl (by assumption)) ?_) | (refine wpList_val (.agg x6) (by rfl) (MA.out _ 39 _ _ _ rfl rfl (by assumption)) ?_) | (refine wpList_val (.agg y6) (by rfl) (MB.out _ 39 _ _ _ rfl rfl (by assumption)) ?_) | (go_at_call 17; with_reducible refine (C17.out _ (by assumption)).mono ?_; rintro e w17 ⟨rfl, hc17⟩; have hb17 := (hb).trans (hc17.mono (hb).size); obtain ⟨⟨q617, q717, q817, q917, q2417⟩, p617, p717, p817, p917, p2417⟩ := QQ.out _ hb17; clear hc17) | (go_at_call 18; with_reducible refine (C18.out _ (by assumption)).mono ?_; rintro e w18 ⟨rfl, hc18⟩; have hb18 := (hb17).trans (hc18.mono (hb17).size); obtain ⟨⟨q618, q718, q818, q918, q2418⟩, p618, p718, p818, p918, p2418⟩ := QQ.out _ hb18; clear hc18) | (go_at_call 19; with_reducible refine (C19.out _ (by assumption)).mono ?_; rintro e w19 ⟨rfl, hc19⟩; have hb19 := (hb18).trans (hc19.mono (hb18).size); obtain ⟨⟨q619, q719, q819, q919, q2419⟩, p619, p719, p819, p919, p2419⟩ := QQ.out _ hb19; clear hc19) | (go_at_call 20; with_reducible refine (C20.out _ (by assumption)).mono ?_; rintro e w20 ⟨rfl, hc20⟩; have hb20 := (hb19).trans (hc20.mono (hb19).size); obtain ⟨⟨q620, q720, q820, q920, q2420⟩, p620, p720, p820, p920, p2420⟩ := QQ.out _ hb20; clear hc20))
          go_ret
          exact ⟨by rw [HR.out]; rfl, B1'.out.trans (hb19.mono B1'.out.size)⟩
        | true =>
          cases r5 with
          | false =>
            go_wp2_with (first | (refine wpList_val (.agg x1) (by rfl) (LA.out _ 34 _ _ _ rfl rfl (by assumption)) ?_) | (refine wpList_val (.agg y1) (by rfl) (LB.out _ 34 _ _ _ rfl rfl (by assumption)) ?_) | (refine wpList_val (.agg x6) (by rfl) (MA.out _ 39 _ _ _ rfl rfl (by assumption)) ?_) | (refine wpList_val (.agg y6) (by rfl) (MB.out _ 39 _ _ _ rfl rfl (by assumption)) ?_) | (go_at_call 17; with_reducible refine (C17.out _ (by assumption)).mono ?_; rintro e w17 ⟨rfl, hc17⟩; have hb17 := (hb).trans (hc17.mono (hb).size); obtain ⟨⟨q617, q717, q817, q917, q2417⟩, p617, p717, p817, p917, p2417⟩ := QQ.out _ hb17; clear hc17) | (go_at_call 18; with_reducible refine (C18.out _ (by assumption)).mono ?_; rintro e w18 ⟨rfl, hc18⟩; have hb18 := (hb17).trans (hc18.mono (hb17).size); obtain ⟨⟨q618, q718, q818, q918, q2418⟩, p618, p718, p818, p918, p2418⟩ := QQ.out _ hb18; clear hc18) | (go_at_call 19; with_reducible refine (C19.out _ (by assumption)).mono ?_; rintro e w19 ⟨rfl, hc19⟩; have hb19 := (hb18).trans (hc19.mono (hb18).size); obtain ⟨⟨q619, q719, q819, q919, q2419⟩, p619, p719, p819, p919, p2419⟩ := QQ.out _ hb19; clear hc19) | (go_at_call 20; with_reducible refine (C20.out _ (by assumption)).mono ?_; rintro e w20 ⟨rfl, hc20⟩; have hb20 := (hb19).trans (hc20.mono (hb19).size); obtain ⟨⟨q620, q720, q820, q920, q2420⟩, p620, p720, p820, p920, p2420⟩ := QQ.out _ hb20; clear hc20))
            go_ret
            exact ⟨by rw [HR.out]; rfl, B1'.out.trans (hb20.mono B1'.out.size)⟩
          | true =>
            cases r6 with
            | false =>
              go_wp2_with (first | (refine wpList_val (.agg x1) (by rfl) (LA.out _ 34 _ _ _ rfl rfl (by assumption)) ?_) | (refine wpList_val (.agg y1) (by rfl) (LB.out _ 34 _ _ _ rfl rfl (by assumption)) ?_) | (refine wpList_val (.agg x6) (by rfl) (MA.out _ 39 _ _ _ rfl rfl (by assumption)) ?_) | (refine wpList_val (.agg y6) (by rfl) (MB.out _ 39 _ _ _ rfl rfl (by assumption)) ?_) | (go_at_call 17; with_reducible refine (C17.out _ (by assumption)).mono ?_; rintro e w17 ⟨rfl, hc17⟩; have hb17 := (hb).trans (hc17.mono (hb).size); obtain ⟨⟨q617, q717, q817, q917, q2417⟩, p617, p717, p817, p917, p2417⟩ := QQ.out _ hb17; clear hc17) | (go_at_call 18; with_reducible refine (C18.out _ (by assumption)).mono ?_; rintro e w18 ⟨rfl, hc18⟩; have hb18 := (hb17).trans (hc18.mono (hb17).size); obtain ⟨⟨q618, q718, q818, q918, q2418⟩, p618, p718, p818, p918, p2418⟩ := QQ.out _ hb18; clear hc18) | (go_at_call 19; with_reducible refine (C19.out _ (by assumption)).mono ?_; rintro e w19 ⟨rfl, hc19⟩; have hb19 := (hb18).trans (hc19.mono (hb18).size); obtain ⟨⟨q619, q719, q819, q919, q2419⟩, p619, p719, p819, p919, p2419⟩ := QQ.out _ hb19; clear hc19) | (go_at_call 20; with_reducible refine (C20.out _ (by assumption)).mono ?_; rintro e w20 ⟨rfl, hc20⟩; have hb20 := (hb19).trans (hc20.mono (hb19).size); obtain ⟨⟨q620, q720, q820, q920, q2420⟩, p620, p720, p820, p920, p2420⟩ := QQ.out _ hb20; clear hc20))
              go_ret
              exact ⟨by rw [HR.out]; rfl, B1'.out.trans (hb20.mono B1'.out.size)⟩
            | true =>
              cases r7 with
              | false =>
                go_wp2_with (first | (refine wpList_val (.agg x1) (by rfl) (LA.out _ 34 _ _ _ rfl rfl (by assumption)) ?_) | (refine wpList_val (.agg y1) (by rfl) (LB.out _ 34 _ _ _ rfl rfl (by assumption)) ?_) | (refine wpList_val (.agg x6) (by rfl) (MA.out _ 39 _ _ _ rfl rfl (by assumption)) ?_) | (refine wpList_val (.agg y6) (by rfl) (MB.out _ 39 _ _ _ rfl rfl (by assumption)) ?_) | (go_at_call 17; with_reducible refine (C17.out _ (by assumption)).mono ?_; rintro e w17 ⟨rfl, hc17⟩; have hb17 := (hb).trans (hc17.mono (hb).size); obtain ⟨⟨q617, q717, q817, q917, q2417⟩, p617, p717, p817, p917, p2417⟩ := QQ.out _ hb17; clear hc17) | (go_at_call 18; with_reducible refine (C18.out _ (by assumption)).mono ?_; rintro e w18 ⟨rfl, hc18⟩; have hb18 := (hb17).trans (hc18.mono (hb17).size); obtain ⟨⟨q618, q718, q818, q918, q2418⟩, p618, p718, p818, p918, p2418⟩ := QQ.out _ hb18; clear hc18) | (go_at_call 19; with_reducible refine (C19.out _ (by assumption)).mono ?_; rintro e w19 ⟨rfl, hc19⟩; have hb19 := (hb18).trans (hc19.mono (hb18).size); obtain ⟨⟨q619, q719, q819, q919, q2419⟩, p619, p719, p819, p919, p2419⟩ := QQ.out _ hb19; clear hc19) | (go_at_call 20; with_reducible refine (C20.out _ (by assumption)).mono ?_; rintro e w20 ⟨rfl, hc20⟩; have hb20 := (hb19).trans (hc20.mono (hb19).size); obtain ⟨⟨q620, q720, q820, q920, q2420⟩, p620, p720, p820, p920, p2420⟩ := QQ.out _ hb20; clear hc20))
                go_ret
                exact ⟨by rw [HR.out]; rfl, B1'.out.trans (hb20.mono B1'.out.size)⟩
              | true =>
                go_wp2_with (first | (refine wpList_val (.agg x1) (by rfl) (LA.out _ 34 _ _ _ rfl rfl (by assumption)) ?_) | (refine wpList_val (.agg y1) (by rfl) (LB.out _ 34 _ _ _ rfl rfl (by assumption)) ?_) | (refine wpList_val (.agg x6) (by rfl) (MA.out _ 39 _ _ _ rfl rfl (by assumption)) ?_) | (refine wpList_val (.agg y6) (by rfl) (MB.out _ 39 _ _ _ rfl rfl (by assumption)) ?_) | (go_at_call 17; with_reducible refine (C17.out _ (by assumption)).mono ?_; rintro e w17 ⟨rfl, hc17⟩; have hb17 := (hb).trans (hc17.mono (hb).size); obtain ⟨⟨q617, q717, q817, q917, q2417⟩, p617, p717, p817, p917, p2417⟩ := QQ.out _ hb17; clear hc17) | (go_at_call 18; with_reducible refine (C18.out _ (by assumption)).mono ?_; rintro e w18 ⟨rfl, hc18⟩; have hb18 := (hb17).trans (hc18.mono (hb17).size); obtain ⟨⟨q618, q718, q818, q918, q2418⟩, p618, p718, p818, p918, p2418⟩ := QQ.out _ hb18; clear hc18) | (go_at_call 19; with_reducible refine (C19.out _ (by assumption)).mono ?_; rintro e w19 ⟨rfl, hc19⟩; have hb19 := (hb18).trans (hc19.mono (hb18).size); obtain ⟨⟨q619, q719, q819, q919, q2419⟩, p619, p719, p819, p919, p2419⟩ := QQ.out _ hb19; clear hc19) | (go_at_call 20; with_reducible refine (C20.out _ (by assumption)).mono ?_; rintro e w20 ⟨rfl, hc20⟩; have hb20 := (hb19).trans (hc20.mono (hb19).size); obtain ⟨⟨q620, q720, q820, q920, q2420⟩, p620, p720, p820, p920, p2420⟩ := QQ.out _ hb20; clear hc20))
                go_ret
                exact ⟨by rw [HR.out]; rfl, B1'.out.trans (hb20.mono B1'.out.size)⟩
end Go.Proofs.Ytpbdamnlfpfclaa
