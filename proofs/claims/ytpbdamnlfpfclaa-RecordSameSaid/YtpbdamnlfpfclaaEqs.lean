/- slices.Equal and slices.Clone at the four lists of a state. -/
import Derived.Test.YtpbdamnlfpfclaaEls
import Derived.Test.YtpbdamnlfpfclaaQuietly
import Derived.Test.YtpbdamnlfpfclaaLastOp
import Derived.Test.YtpbdamnlfpfclaaBld
namespace Go.Proofs.Ytpbdamnlfpfclaa
open Go.RowKit
attribute [local irreducible] wpQuiet
set_option linter.unusedSimpArgs false
set_option linter.unusedVariables false

section
variable {α : Type} {enc : α → List Value} {size : Nat} {w w' : World} {base : Nat} {e : TypeId} {v : Value} {l : List α}
/-- Its address, its room. -/
theorem Own.shape (h : Own w base e size enc v l) : ∃ a c, v = .slice a l.length c ∧ l.length ≤ c ∧ c ≤ maxLen := by
  rcases h.cases with ⟨rfl, rfl⟩ | ⟨g, cap, rfl, -, -, h1, h2⟩
  · exact ⟨none, 0, rfl, Nat.le_refl _, by unfold maxLen; omega⟩
  · exact ⟨_, cap, rfl, h1, h2⟩
/-- An element of it. -/
theorem Own.elem (henc : ∀ x, (enc x).length = size) {a : Option Addr} {c : Nat} (h : Own w base e size enc (.slice a l.length c) l) {k : Nat} {x : α} (hx : l[k]? = some x) :
    ∃ g, a = some ⟨g, 0, none⟩ ∧ base ≤ g ∧ g < w.heap.size ∧ ∀ W, Below w.heap.size w W → W.rangeAt g (k * size) (enc x) := by
  have hk : k < l.length := (List.getElem?_eq_some_iff.1 hx).1
  rcases h.cases with ⟨h1, rfl⟩ | ⟨g, cap, h1, h2, h3, -, -⟩
  · simp at hk
  · injection h1 with h1 _ h4
    subst h1
    subst h4
    refine ⟨g, rfl, h2, h3, fun W hW j u hu => ?_⟩
    have hj : j < size := by have := (List.getElem?_eq_some_iff.1 hu).1; rw [henc] at this; exact this
    rw [(h.next hW).at henc k j x hx hj, hu]
end
theorem lists_ne {α : Type} {a b : List α} {k : Nat} {x y : α} (hx : a[k]? = some x) (hy : b[k]? = some y) (h : eqB x y = false) : eqB a b = false := eqB_ne fun e => by
  rw [e, hy] at hx
  rw [Option.some.inj hx, eqB_self] at h
  cases h
theorem lists_eq {α : Type} {a b : List α} {n : Nat} (ha : a.length = n) (hb : b.length = n) (h : ∀ j, j < n → a[j]? = b[j]?) : eqB a b = true := eqB_iff.2 (List.ext_getElem? fun j => by
  by_cases c : j < n
  · exact h j c
  · rw [List.getElem?_eq_none (by omega), List.getElem?_eq_none (by omega)])

set_option maxRecDepth 100000 in
set_option maxHeartbeats 4000000 in
theorem eqs_po {w : World} {B1 B2 : Nat} {v1 v2 : Value} {l1 l2 : List Po} (h1 : Own w B1 50 21 poC v1 l1) (h2 : Own w B2 50 21 poC v2 l2) :
    Calls Try.prog 17 #[v1, v2] w fun e w' => e = .returned (.bool (eqB l1 l2)) ∧ Below w.heap.size w w' := by
  obtain ⟨a1, c1, rfl, hc1, hm1⟩ := h1.shape
  obtain ⟨a2, c2, rfl, hc2, hm2⟩ := h2.shape
  have H1 := Lib.hid h1
  have H2 := Lib.hid h2
  obtain ⟨n, hn⟩ : ∃ n, n = l1.length := ⟨_, rfl⟩
  obtain ⟨m, hm⟩ : ∃ m, m = l2.length := ⟨_, rfl⟩
  have HN := Lib.hid hn
  have HM := Lib.hid hm
  have B0 := Lib.hid (Below.refl w.heap.size w)
  rw [← hn] at hc1 ⊢
  rw [← hm] at hc2 ⊢
  have i1 : (n : Int) ≤ 9223372036854775807 := by unfold maxLen at hm1; omega
  have i2 : (m : Int) ≤ 9223372036854775807 := by unfold maxLen at hm2; omega
  have C1 := Lib.hid hc1
  have C2 := Lib.hid hc2
  clear h1 h2 hn hm hm1 hm2 hc1 hc2
  by_cases hnm : n = m
  · subst hnm
    obtain ⟨R, hR⟩ : ∃ R, R = eqB l1 l2 := ⟨_, rfl⟩
    have HR := Lib.hid hR
    rw [← hR]
    clear hR
    go_enter Try.func17, Try.ntmps17
    go_upto_region 4 with fail
    go_loopw [13] (fun i wr => ∃ k : Nat, k ≤ n ∧ i = .int .i64 k ∧ (∀ j, j < k → l1[j]? = l2[j]?) ∧ Below w.heap.size w wr) (fun i _ => (n - intOf i).toNat)
    case atStart => exact ⟨0, by omega, rfl, (fun j hj => absurd hj (by omega)), B0.out⟩
    case round =>
      obtain ⟨k, hk, rfl, hpre, hb⟩ := hrel
      have PRE := Lib.hid hpre
      have BB := Lib.hid hb
      clear hpre hb
      by_cases hlt : k < n
      · obtain ⟨x, hx⟩ : ∃ x, l1[k]? = some x := ⟨_, List.getElem?_eq_getElem (show k < l1.length by rw [← HN.out]; exact hlt)⟩
        obtain ⟨y, hy⟩ : ∃ y, l2[k]? = some y := ⟨_, List.getElem?_eq_getElem (show k < l2.length by rw [← HM.out]; exact hlt)⟩
        obtain ⟨g1, e1, -, -, r1⟩ := Own.elem po_len H1.out hx
        obtain ⟨g2, e2, -, -, r2⟩ := Own.elem po_len H2.out hy
        subst e1
        subst e2
        have R1 := Lib.hid r1
        have R2 := Lib.hid r2
        have HX := Lib.hid hx
        have HY := Lib.hid hy
        obtain ⟨r, hr⟩ : ∃ r, r = eqB x y := ⟨_, rfl⟩
        have ER := Lib.hid hr
        have EQ := Lib.hid (show ∀ W, (Op.equalIn 10000 50 (poV x) (poV y)).run Try.prog W = .ok r W from fun W => by rw [hr]; exact equal_po x y W)
        have hkc1 : k ≤ c1 := by have := C1.out; omega
        have hkc2 : k ≤ c2 := by have := C2.out; omega
        clear r1 r2 hx hy hr
        go_upto_region 6 with fail
        refine wp_region_quiet (C := Below w.heap.size w) (by kernel_rfl) (by kernel_rfl) (BB.out.trans ((Below.refl _ _).drew.mono BB.out.size)) ?_
        (refine q_val (v := ?_) (by rfl) ?_ ?_; rotate_left; (· (intro w hC; go_simp; try with_reducible rfl)); (try simp only [Act.put, List.getElem_toArray, List.getElem_cons_succ, List.getElem_cons_zero, List.setIfInBounds_toArray, List.set_cons_zero, List.set_cons_succ]))
        (refine q_val (v := ?_) (by rfl) ?_ ?_; rotate_left; (· (intro w hC; go_simp; try with_reducible rfl)); (try simp only [Act.put, List.getElem_toArray, List.getElem_cons_succ, List.getElem_cons_zero, List.setIfInBounds_toArray, List.set_cons_zero, List.set_cons_succ]))
        (refine q_val (v := ?_) (by rfl) ?_ ?_; rotate_left; (· (intro w hC; go_simp; try with_reducible rfl)); (try simp only [Act.put, List.getElem_toArray, List.getElem_cons_succ, List.getElem_cons_zero, List.setIfInBounds_toArray, List.set_cons_zero, List.set_cons_succ]))
        (refine q_val (v := poV x) (by rfl) (fun w hC => run_loadRange 50 _ rfl g1 (k * 21) rfl (poA x) _ (R1.out w hC) Try.underlying50 rfl (po_info x)) ?_; (try simp only [Act.put, List.getElem_toArray, List.getElem_cons_succ, List.getElem_cons_zero, List.setIfInBounds_toArray, List.set_cons_zero, List.set_cons_succ]))
        (refine q_val (v := ?_) (by rfl) ?_ ?_; rotate_left; (· (intro w hC; go_simp; try with_reducible rfl)); (try simp only [Act.put, List.getElem_toArray, List.getElem_cons_succ, List.getElem_cons_zero, List.setIfInBounds_toArray, List.set_cons_zero, List.set_cons_succ]))
        (refine q_val (v := ?_) (by rfl) ?_ ?_; rotate_left; (· (intro w hC; go_simp; try with_reducible rfl)); (try simp only [Act.put, List.getElem_toArray, List.getElem_cons_succ, List.getElem_cons_zero, List.setIfInBounds_toArray, List.set_cons_zero, List.set_cons_succ]))
        (refine q_val (v := ?_) (by rfl) ?_ ?_; rotate_left; (· (intro w hC; go_simp; try with_reducible rfl)); (try simp only [Act.put, List.getElem_toArray, List.getElem_cons_succ, List.getElem_cons_zero, List.setIfInBounds_toArray, List.set_cons_zero, List.set_cons_succ]))
        (refine q_val (v := poV y) (by rfl) (fun w hC => run_loadRange 50 _ rfl g2 (k * 21) rfl (poA y) _ (R2.out w hC) Try.underlying50 rfl (po_info y)) ?_; (try simp only [Act.put, List.getElem_toArray, List.getElem_cons_succ, List.getElem_cons_zero, List.setIfInBounds_toArray, List.set_cons_zero, List.set_cons_succ]))
        (refine q_val (v := .bool (!r)) (by rfl) (fun w hC => by have q := EQ.out; go_simp) ?_; (try simp only [Act.put, List.getElem_toArray, List.getElem_cons_succ, List.getElem_cons_zero, List.setIfInBounds_toArray, List.set_cons_zero, List.set_cons_succ]))
        refine wpQuiet_nil ?_
        intro w5 hC5
        have K5 := Lib.hid hC5
        clear hC5
        cases r with
        | true =>
          have EE := Lib.hid (eqB_iff.1 ER.out.symm)
          go_wp2_with fail
          go_roundw
          case rel =>
            refine ⟨k + 1, by omega, by go_num, fun j hj => ?_, K5.out⟩
            rcases Nat.lt_or_ge j k with c | c
            · exact PRE.out j c
            · obtain rfl : j = k := by omega
              rw [HX.out, HY.out, EE.out]
          case measure => simp [intOf]; omega
        | false =>
          have EE := Lib.hid (show R = false by rw [HR.out]; exact lists_ne HX.out HY.out ER.out.symm)
          go_wp2_with fail
          go_ret
          exact ⟨by rw [EE.out]; rfl, K5.out⟩
      · have EE := Lib.hid (show R = true by rw [HR.out]; exact lists_eq HN.out.symm HM.out.symm (fun j hj => PRE.out j (by omega)))
        go_wp2_with fail
        go_ret
        exact ⟨by rw [EE.out]; rfl, BB.out⟩
  · have EE := Lib.hid (show eqB l1 l2 = false from eqB_ne fun e => hnm (by rw [HN.out, HM.out, e]))
    have hne : ¬ (n : Int) = (m : Int) := by omega
    have hne2 : ((n : Int) != (m : Int)) = true := by simpa using hne
    go_enter Try.func17, Try.ntmps17
    go_wp2_with fail
    go_ret
    exact ⟨by rw [EE.out]; rfl, B0.out⟩

set_option maxRecDepth 100000 in
set_option maxHeartbeats 4000000 in
theorem eqs_vr {w : World} {B1 B2 : Nat} {v1 v2 : Value} {l1 l2 : List Vr} (h1 : Own w B1 54 3 vrC v1 l1) (h2 : Own w B2 54 3 vrC v2 l2) :
    Calls Try.prog 18 #[v1, v2] w fun e w' => e = .returned (.bool (eqB l1 l2)) ∧ Below w.heap.size w w' := by
  obtain ⟨a1, c1, rfl, hc1, hm1⟩ := h1.shape
  obtain ⟨a2, c2, rfl, hc2, hm2⟩ := h2.shape
  have H1 := Lib.hid h1
  have H2 := Lib.hid h2
  obtain ⟨n, hn⟩ : ∃ n, n = l1.length := ⟨_, rfl⟩
  obtain ⟨m, hm⟩ : ∃ m, m = l2.length := ⟨_, rfl⟩
  have HN := Lib.hid hn
  have HM := Lib.hid hm
  have B0 := Lib.hid (Below.refl w.heap.size w)
  rw [← hn] at hc1 ⊢
  rw [← hm] at hc2 ⊢
  have i1 : (n : Int) ≤ 9223372036854775807 := by unfold maxLen at hm1; omega
  have i2 : (m : Int) ≤ 9223372036854775807 := by unfold maxLen at hm2; omega
  have C1 := Lib.hid hc1
  have C2 := Lib.hid hc2
  clear h1 h2 hn hm hm1 hm2 hc1 hc2
  by_cases hnm : n = m
  · subst hnm
    obtain ⟨R, hR⟩ : ∃ R, R = eqB l1 l2 := ⟨_, rfl⟩
    have HR := Lib.hid hR
    rw [← hR]
    clear hR
    go_enter Try.func18, Try.ntmps18
    go_upto_region 4 with fail
    go_loopw [13] (fun i wr => ∃ k : Nat, k ≤ n ∧ i = .int .i64 k ∧ (∀ j, j < k → l1[j]? = l2[j]?) ∧ Below w.heap.size w wr) (fun i _ => (n - intOf i).toNat)
    case atStart => exact ⟨0, by omega, rfl, (fun j hj => absurd hj (by omega)), B0.out⟩
    case round =>
      obtain ⟨k, hk, rfl, hpre, hb⟩ := hrel
      have PRE := Lib.hid hpre
      have BB := Lib.hid hb
      clear hpre hb
      by_cases hlt : k < n
      · obtain ⟨x, hx⟩ : ∃ x, l1[k]? = some x := ⟨_, List.getElem?_eq_getElem (show k < l1.length by rw [← HN.out]; exact hlt)⟩
        obtain ⟨y, hy⟩ : ∃ y, l2[k]? = some y := ⟨_, List.getElem?_eq_getElem (show k < l2.length by rw [← HM.out]; exact hlt)⟩
        obtain ⟨g1, e1, -, -, r1⟩ := Own.elem vr_len H1.out hx
        obtain ⟨g2, e2, -, -, r2⟩ := Own.elem vr_len H2.out hy
        subst e1
        subst e2
        have R1 := Lib.hid r1
        have R2 := Lib.hid r2
        have HX := Lib.hid hx
        have HY := Lib.hid hy
        obtain ⟨r, hr⟩ : ∃ r, r = eqB x y := ⟨_, rfl⟩
        have ER := Lib.hid hr
        have EQ := Lib.hid (show ∀ W, (Op.equalIn 10000 54 (vrV x) (vrV y)).run Try.prog W = .ok r W from fun W => by rw [hr]; exact equal_vr x y W)
        have hkc1 : k ≤ c1 := by have := C1.out; omega
        have hkc2 : k ≤ c2 := by have := C2.out; omega
        clear r1 r2 hx hy hr
        go_upto_region 6 with fail
        refine wp_region_quiet (C := Below w.heap.size w) (by kernel_rfl) (by kernel_rfl) (BB.out.trans ((Below.refl _ _).drew.mono BB.out.size)) ?_
        (refine q_val (v := ?_) (by rfl) ?_ ?_; rotate_left; (· (intro w hC; go_simp; try with_reducible rfl)); (try simp only [Act.put, List.getElem_toArray, List.getElem_cons_succ, List.getElem_cons_zero, List.setIfInBounds_toArray, List.set_cons_zero, List.set_cons_succ]))
        (refine q_val (v := ?_) (by rfl) ?_ ?_; rotate_left; (· (intro w hC; go_simp; try with_reducible rfl)); (try simp only [Act.put, List.getElem_toArray, List.getElem_cons_succ, List.getElem_cons_zero, List.setIfInBounds_toArray, List.set_cons_zero, List.set_cons_succ]))
        (refine q_val (v := ?_) (by rfl) ?_ ?_; rotate_left; (· (intro w hC; go_simp; try with_reducible rfl)); (try simp only [Act.put, List.getElem_toArray, List.getElem_cons_succ, List.getElem_cons_zero, List.setIfInBounds_toArray, List.set_cons_zero, List.set_cons_succ]))
        (refine q_val (v := vrV x) (by rfl) (fun w hC => run_loadRange 54 _ rfl g1 (k * 3) rfl (vrA x) _ (R1.out w hC) Try.underlying54 rfl (vr_info x)) ?_; (try simp only [Act.put, List.getElem_toArray, List.getElem_cons_succ, List.getElem_cons_zero, List.setIfInBounds_toArray, List.set_cons_zero, List.set_cons_succ]))
        (refine q_val (v := ?_) (by rfl) ?_ ?_; rotate_left; (· (intro w hC; go_simp; try with_reducible rfl)); (try simp only [Act.put, List.getElem_toArray, List.getElem_cons_succ, List.getElem_cons_zero, List.setIfInBounds_toArray, List.set_cons_zero, List.set_cons_succ]))
        (refine q_val (v := ?_) (by rfl) ?_ ?_; rotate_left; (· (intro w hC; go_simp; try with_reducible rfl)); (try simp only [Act.put, List.getElem_toArray, List.getElem_cons_succ, List.getElem_cons_zero, List.setIfInBounds_toArray, List.set_cons_zero, List.set_cons_succ]))
        (refine q_val (v := ?_) (by rfl) ?_ ?_; rotate_left; (· (intro w hC; go_simp; try with_reducible rfl)); (try simp only [Act.put, List.getElem_toArray, List.getElem_cons_succ, List.getElem_cons_zero, List.setIfInBounds_toArray, List.set_cons_zero, List.set_cons_succ]))
        (refine q_val (v := vrV y) (by rfl) (fun w hC => run_loadRange 54 _ rfl g2 (k * 3) rfl (vrA y) _ (R2.out w hC) Try.underlying54 rfl (vr_info y)) ?_; (try simp only [Act.put, List.getElem_toArray, List.getElem_cons_succ, List.getElem_cons_zero, List.setIfInBounds_toArray, List.set_cons_zero, List.set_cons_succ]))
        (refine q_val (v := .bool (!r)) (by rfl) (fun w hC => by have q := EQ.out; go_simp) ?_; (try simp only [Act.put, List.getElem_toArray, List.getElem_cons_succ, List.getElem_cons_zero, List.setIfInBounds_toArray, List.set_cons_zero, List.set_cons_succ]))
        refine wpQuiet_nil ?_
        intro w5 hC5
        have K5 := Lib.hid hC5
        clear hC5
        cases r with
        | true =>
          have EE := Lib.hid (eqB_iff.1 ER.out.symm)
          go_wp2_with fail
          go_roundw
          case rel =>
            refine ⟨k + 1, by omega, by go_num, fun j hj => ?_, K5.out⟩
            rcases Nat.lt_or_ge j k with c | c
            · exact PRE.out j c
            · obtain rfl : j = k := by omega
              rw [HX.out, HY.out, EE.out]
          case measure => simp [intOf]; omega
        | false =>
          have EE := Lib.hid (show R = false by rw [HR.out]; exact lists_ne HX.out HY.out ER.out.symm)
          go_wp2_with fail
          go_ret
          exact ⟨by rw [EE.out]; rfl, K5.out⟩
      · have EE := Lib.hid (show R = true by rw [HR.out]; exact lists_eq HN.out.symm HM.out.symm (fun j hj => PRE.out j (by omega)))
        go_wp2_with fail
        go_ret
        exact ⟨by rw [EE.out]; rfl, BB.out⟩
  · have EE := Lib.hid (show eqB l1 l2 = false from eqB_ne fun e => hnm (by rw [HN.out, HM.out, e]))
    have hne : ¬ (n : Int) = (m : Int) := by omega
    have hne2 : ((n : Int) != (m : Int)) = true := by simpa using hne
    go_enter Try.func18, Try.ntmps18
    go_wp2_with fail
    go_ret
    exact ⟨by rw [EE.out]; rfl, B0.out⟩

set_option maxRecDepth 100000 in
set_option maxHeartbeats 4000000 in
theorem eqs_sr {w : World} {B1 B2 : Nat} {v1 v2 : Value} {l1 l2 : List Sr} (h1 : Own w B1 60 8 srC v1 l1) (h2 : Own w B2 60 8 srC v2 l2) :
    Calls Try.prog 19 #[v1, v2] w fun e w' => e = .returned (.bool (eqB l1 l2)) ∧ Below w.heap.size w w' := by
  obtain ⟨a1, c1, rfl, hc1, hm1⟩ := h1.shape
  obtain ⟨a2, c2, rfl, hc2, hm2⟩ := h2.shape
  have H1 := Lib.hid h1
  have H2 := Lib.hid h2
  obtain ⟨n, hn⟩ : ∃ n, n = l1.length := ⟨_, rfl⟩
  obtain ⟨m, hm⟩ : ∃ m, m = l2.length := ⟨_, rfl⟩
  have HN := Lib.hid hn
  have HM := Lib.hid hm
  have B0 := Lib.hid (Below.refl w.heap.size w)
  rw [← hn] at hc1 ⊢
  rw [← hm] at hc2 ⊢
  have i1 : (n : Int) ≤ 9223372036854775807 := by unfold maxLen at hm1; omega
  have i2 : (m : Int) ≤ 9223372036854775807 := by unfold maxLen at hm2; omega
  have C1 := Lib.hid hc1
  have C2 := Lib.hid hc2
  clear h1 h2 hn hm hm1 hm2 hc1 hc2
  by_cases hnm : n = m
  · subst hnm
    obtain ⟨R, hR⟩ : ∃ R, R = eqB l1 l2 := ⟨_, rfl⟩
    have HR := Lib.hid hR
    rw [← hR]
    clear hR
    go_enter Try.func19, Try.ntmps19
    go_upto_region 4 with fail
    go_loopw [13] (fun i wr => ∃ k : Nat, k ≤ n ∧ i = .int .i64 k ∧ (∀ j, j < k → l1[j]? = l2[j]?) ∧ Below w.heap.size w wr) (fun i _ => (n - intOf i).toNat)
    case atStart => exact ⟨0, by omega, rfl, (fun j hj => absurd hj (by omega)), B0.out⟩
    case round =>
      obtain ⟨k, hk, rfl, hpre, hb⟩ := hrel
      have PRE := Lib.hid hpre
      have BB := Lib.hid hb
      clear hpre hb
      by_cases hlt : k < n
      · obtain ⟨x, hx⟩ : ∃ x, l1[k]? = some x := ⟨_, List.getElem?_eq_getElem (show k < l1.length by rw [← HN.out]; exact hlt)⟩
        obtain ⟨y, hy⟩ : ∃ y, l2[k]? = some y := ⟨_, List.getElem?_eq_getElem (show k < l2.length by rw [← HM.out]; exact hlt)⟩
        obtain ⟨g1, e1, -, -, r1⟩ := Own.elem sr_len H1.out hx
        obtain ⟨g2, e2, -, -, r2⟩ := Own.elem sr_len H2.out hy
        subst e1
        subst e2
        have R1 := Lib.hid r1
        have R2 := Lib.hid r2
        have HX := Lib.hid hx
        have HY := Lib.hid hy
        obtain ⟨r, hr⟩ : ∃ r, r = eqB x y := ⟨_, rfl⟩
        have ER := Lib.hid hr
        have EQ := Lib.hid (show ∀ W, (Op.equalIn 10000 60 (srV x) (srV y)).run Try.prog W = .ok r W from fun W => by rw [hr]; exact equal_sr x y W)
        have hkc1 : k ≤ c1 := by have := C1.out; omega
        have hkc2 : k ≤ c2 := by have := C2.out; omega
        clear r1 r2 hx hy hr
        go_upto_region 6 with fail
        refine wp_region_quiet (C := Below w.heap.size w) (by kernel_rfl) (by kernel_rfl) (BB.out.trans ((Below.refl _ _).drew.mono BB.out.size)) ?_
        (refine q_val (v := ?_) (by rfl) ?_ ?_; rotate_left; (· (intro w hC; go_simp; try with_reducible rfl)); (try simp only [Act.put, List.getElem_toArray, List.getElem_cons_succ, List.getElem_cons_zero, List.setIfInBounds_toArray, List.set_cons_zero, List.set_cons_succ]))
        (refine q_val (v := ?_) (by rfl) ?_ ?_; rotate_left; (· (intro w hC; go_simp; try with_reducible rfl)); (try simp only [Act.put, List.getElem_toArray, List.getElem_cons_succ, List.getElem_cons_zero, List.setIfInBounds_toArray, List.set_cons_zero, List.set_cons_succ]))
        (refine q_val (v := ?_) (by rfl) ?_ ?_; rotate_left; (· (intro w hC; go_simp; try with_reducible rfl)); (try simp only [Act.put, List.getElem_toArray, List.getElem_cons_succ, List.getElem_cons_zero, List.setIfInBounds_toArray, List.set_cons_zero, List.set_cons_succ]))
        (refine q_val (v := srV x) (by rfl) (fun w hC => run_loadRange 60 _ rfl g1 (k * 8) rfl (srA x) _ (R1.out w hC) Try.underlying60 rfl (sr_info x)) ?_; (try simp only [Act.put, List.getElem_toArray, List.getElem_cons_succ, List.getElem_cons_zero, List.setIfInBounds_toArray, List.set_cons_zero, List.set_cons_succ]))
        (refine q_val (v := ?_) (by rfl) ?_ ?_; rotate_left; (· (intro w hC; go_simp; try with_reducible rfl)); (try simp only [Act.put, List.getElem_toArray, List.getElem_cons_succ, List.getElem_cons_zero, List.setIfInBounds_toArray, List.set_cons_zero, List.set_cons_succ]))
        (refine q_val (v := ?_) (by rfl) ?_ ?_; rotate_left; (· (intro w hC; go_simp; try with_reducible rfl)); (try simp only [Act.put, List.getElem_toArray, List.getElem_cons_succ, List.getElem_cons_zero, List.setIfInBounds_toArray, List.set_cons_zero, List.set_cons_succ]))
        (refine q_val (v := ?_) (by rfl) ?_ ?_; rotate_left; (· (intro w hC; go_simp; try with_reducible rfl)); (try simp only [Act.put, List.getElem_toArray, List.getElem_cons_succ, List.getElem_cons_zero, List.setIfInBounds_toArray, List.set_cons_zero, List.set_cons_succ]))
        (refine q_val (v := srV y) (by rfl) (fun w hC => run_loadRange 60 _ rfl g2 (k * 8) rfl (srA y) _ (R2.out w hC) Try.underlying60 rfl (sr_info y)) ?_; (try simp only [Act.put, List.getElem_toArray, List.getElem_cons_succ, List.getElem_cons_zero, List.setIfInBounds_toArray, List.set_cons_zero, List.set_cons_succ]))
        (refine q_val (v := .bool (!r)) (by rfl) (fun w hC => by have q := EQ.out; go_simp) ?_; (try simp only [Act.put, List.getElem_toArray, List.getElem_cons_succ, List.getElem_cons_zero, List.setIfInBounds_toArray, List.set_cons_zero, List.set_cons_succ]))
        refine wpQuiet_nil ?_
        intro w5 hC5
        have K5 := Lib.hid hC5
        clear hC5
        cases r with
        | true =>
          have EE := Lib.hid (eqB_iff.1 ER.out.symm)
          go_wp2_with fail
          go_roundw
          case rel =>
            refine ⟨k + 1, by omega, by go_num, fun j hj => ?_, K5.out⟩
            rcases Nat.lt_or_ge j k with c | c
            · exact PRE.out j c
            · obtain rfl : j = k := by omega
              rw [HX.out, HY.out, EE.out]
          case measure => simp [intOf]; omega
        | false =>
          have EE := Lib.hid (show R = false by rw [HR.out]; exact lists_ne HX.out HY.out ER.out.symm)
          go_wp2_with fail
          go_ret
          exact ⟨by rw [EE.out]; rfl, K5.out⟩
      · have EE := Lib.hid (show R = true by rw [HR.out]; exact lists_eq HN.out.symm HM.out.symm (fun j hj => PRE.out j (by omega)))
        go_wp2_with fail
        go_ret
        exact ⟨by rw [EE.out]; rfl, BB.out⟩
  · have EE := Lib.hid (show eqB l1 l2 = false from eqB_ne fun e => hnm (by rw [HN.out, HM.out, e]))
    have hne : ¬ (n : Int) = (m : Int) := by omega
    have hne2 : ((n : Int) != (m : Int)) = true := by simpa using hne
    go_enter Try.func19, Try.ntmps19
    go_wp2_with fail
    go_ret
    exact ⟨by rw [EE.out]; rfl, B0.out⟩

set_option maxRecDepth 100000 in
set_option maxHeartbeats 4000000 in
theorem eqs_fr {w : World} {B1 B2 : Nat} {v1 v2 : Value} {l1 l2 : List Fr} (h1 : Own w B1 64 9 frC v1 l1) (h2 : Own w B2 64 9 frC v2 l2) :
    Calls Try.prog 20 #[v1, v2] w fun e w' => e = .returned (.bool (eqB l1 l2)) ∧ Below w.heap.size w w' := by
  obtain ⟨a1, c1, rfl, hc1, hm1⟩ := h1.shape
  obtain ⟨a2, c2, rfl, hc2, hm2⟩ := h2.shape
  have H1 := Lib.hid h1
  have H2 := Lib.hid h2
  obtain ⟨n, hn⟩ : ∃ n, n = l1.length := ⟨_, rfl⟩
  obtain ⟨m, hm⟩ : ∃ m, m = l2.length := ⟨_, rfl⟩
  have HN := Lib.hid hn
  have HM := Lib.hid hm
  have B0 := Lib.hid (Below.refl w.heap.size w)
  rw [← hn] at hc1 ⊢
  rw [← hm] at hc2 ⊢
  have i1 : (n : Int) ≤ 9223372036854775807 := by unfold maxLen at hm1; omega
  have i2 : (m : Int) ≤ 9223372036854775807 := by unfold maxLen at hm2; omega
  have C1 := Lib.hid hc1
  have C2 := Lib.hid hc2
  clear h1 h2 hn hm hm1 hm2 hc1 hc2
  by_cases hnm : n = m
  · subst hnm
    obtain ⟨R, hR⟩ : ∃ R, R = eqB l1 l2 := ⟨_, rfl⟩
    have HR := Lib.hid hR
    rw [← hR]
    clear hR
    go_enter Try.func20, Try.ntmps20
    go_upto_region 4 with fail
    go_loopw [13] (fun i wr => ∃ k : Nat, k ≤ n ∧ i = .int .i64 k ∧ (∀ j, j < k → l1[j]? = l2[j]?) ∧ Below w.heap.size w wr) (fun i _ => (n - intOf i).toNat)
    case atStart => exact ⟨0, by omega, rfl, (fun j hj => absurd hj (by omega)), B0.out⟩
    case round =>
      obtain ⟨k, hk, rfl, hpre, hb⟩ := hrel
      have PRE := Lib.hid hpre
      have BB := Lib.hid hb
      clear hpre hb
      by_cases hlt : k < n
      · obtain ⟨x, hx⟩ : ∃ x, l1[k]? = some x := ⟨_, List.getElem?_eq_getElem (show k < l1.length by rw [← HN.out]; exact hlt)⟩
        obtain ⟨y, hy⟩ : ∃ y, l2[k]? = some y := ⟨_, List.getElem?_eq_getElem (show k < l2.length by rw [← HM.out]; exact hlt)⟩
        obtain ⟨g1, e1, -, -, r1⟩ := Own.elem fr_len H1.out hx
        obtain ⟨g2, e2, -, -, r2⟩ := Own.elem fr_len H2.out hy
        subst e1
        subst e2
        have R1 := Lib.hid r1
        have R2 := Lib.hid r2
        have HX := Lib.hid hx
        have HY := Lib.hid hy
        obtain ⟨r, hr⟩ : ∃ r, r = eqB x y := ⟨_, rfl⟩
        have ER := Lib.hid hr
        have EQ := Lib.hid (show ∀ W, (Op.equalIn 10000 64 (frV x) (frV y)).run Try.prog W = .ok r W from fun W => by rw [hr]; exact equal_fr x y W)
        have hkc1 : k ≤ c1 := by have := C1.out; omega
        have hkc2 : k ≤ c2 := by have := C2.out; omega
        clear r1 r2 hx hy hr
        go_upto_region 6 with fail
        refine wp_region_quiet (C := Below w.heap.size w) (by kernel_rfl) (by kernel_rfl) (BB.out.trans ((Below.refl _ _).drew.mono BB.out.size)) ?_
        (refine q_val (v := ?_) (by rfl) ?_ ?_; rotate_left; (· (intro w hC; go_simp; try with_reducible rfl)); (try simp only [Act.put, List.getElem_toArray, List.getElem_cons_succ, List.getElem_cons_zero, List.setIfInBounds_toArray, List.set_cons_zero, List.set_cons_succ]))
        (refine q_val (v := ?_) (by rfl) ?_ ?_; rotate_left; (· (intro w hC; go_simp; try with_reducible rfl)); (try simp only [Act.put, List.getElem_toArray, List.getElem_cons_succ, List.getElem_cons_zero, List.setIfInBounds_toArray, List.set_cons_zero, List.set_cons_succ]))
        (refine q_val (v := ?_) (by rfl) ?_ ?_; rotate_left; (· (intro w hC; go_simp; try with_reducible rfl)); (try simp only [Act.put, List.getElem_toArray, List.getElem_cons_succ, List.getElem_cons_zero, List.setIfInBounds_toArray, List.set_cons_zero, List.set_cons_succ]))
        (refine q_val (v := frV x) (by rfl) (fun w hC => run_loadRange 64 _ rfl g1 (k * 9) rfl (frA x) _ (R1.out w hC) Try.underlying64 rfl (fr_info x)) ?_; (try simp only [Act.put, List.getElem_toArray, List.getElem_cons_succ, List.getElem_cons_zero, List.setIfInBounds_toArray, List.set_cons_zero, List.set_cons_succ]))
        (refine q_val (v := ?_) (by rfl) ?_ ?_; rotate_left; (· (intro w hC; go_simp; try with_reducible rfl)); (try simp only [Act.put, List.getElem_toArray, List.getElem_cons_succ, List.getElem_cons_zero, List.setIfInBounds_toArray, List.set_cons_zero, List.set_cons_succ]))
        (refine q_val (v := ?_) (by rfl) ?_ ?_; rotate_left; (· (intro w hC; go_simp; try with_reducible rfl)); (try simp only [Act.put, List.getElem_toArray, List.getElem_cons_succ, List.getElem_cons_zero, List.setIfInBounds_toArray, List.set_cons_zero, List.set_cons_succ]))
        (refine q_val (v := ?_) (by rfl) ?_ ?_; rotate_left; (· (intro w hC; go_simp; try with_reducible rfl)); (try simp only [Act.put, List.getElem_toArray, List.getElem_cons_succ, List.getElem_cons_zero, List.setIfInBounds_toArray, List.set_cons_zero, List.set_cons_succ]))
        (refine q_val (v := frV y) (by rfl) (fun w hC => run_loadRange 64 _ rfl g2 (k * 9) rfl (frA y) _ (R2.out w hC) Try.underlying64 rfl (fr_info y)) ?_; (try simp only [Act.put, List.getElem_toArray, List.getElem_cons_succ, List.getElem_cons_zero, List.setIfInBounds_toArray, List.set_cons_zero, List.set_cons_succ]))
        (refine q_val (v := .bool (!r)) (by rfl) (fun w hC => by have q := EQ.out; go_simp) ?_; (try simp only [Act.put, List.getElem_toArray, List.getElem_cons_succ, List.getElem_cons_zero, List.setIfInBounds_toArray, List.set_cons_zero, List.set_cons_succ]))
        refine wpQuiet_nil ?_
        intro w5 hC5
        have K5 := Lib.hid hC5
        clear hC5
        cases r with
        | true =>
          have EE := Lib.hid (eqB_iff.1 ER.out.symm)
          go_wp2_with fail
          go_roundw
          case rel =>
            refine ⟨k + 1, by omega, by go_num, fun j hj => ?_, K5.out⟩
            rcases Nat.lt_or_ge j k with c | c
            · exact PRE.out j c
            · obtain rfl : j = k := by omega
              rw [HX.out, HY.out, EE.out]
          case measure => simp [intOf]; omega
        | false =>
          have EE := Lib.hid (show R = false by rw [HR.out]; exact lists_ne HX.out HY.out ER.out.symm)
          go_wp2_with fail
          go_ret
          exact ⟨by rw [EE.out]; rfl, K5.out⟩
      · have EE := Lib.hid (show R = true by rw [HR.out]; exact lists_eq HN.out.symm HM.out.symm (fun j hj => PRE.out j (by omega)))
        go_wp2_with fail
        go_ret
        exact ⟨by rw [EE.out]; rfl, BB.out⟩
  · have EE := Lib.hid (show eqB l1 l2 = false from eqB_ne fun e => hnm (by rw [HN.out, HM.out, e]))
    have hne : ¬ (n : Int) = (m : Int) := by omega
    have hne2 : ((n : Int) != (m : Int)) = true := by simpa using hne
    go_enter Try.func20, Try.ntmps20
    go_wp2_with fail
    go_ret
    exact ⟨by rw [EE.out]; rfl, B0.out⟩
end Go.Proofs.Ytpbdamnlfpfclaa
