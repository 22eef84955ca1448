/- Whether kinds rise. -/
import Derived.Test.YtmbafeemiclmeaaTv1
namespace Go.Proofs.Ytmbafeemiclmeaa
open Go.RowKit
attribute [local irreducible] wpQuiet
set_option linter.unusedSimpArgs false
set_option linter.unusedVariables false

set_option maxHeartbeats 1000000 in
theorem rises_any {w : World} {v : Value} {l : List Sec} (hs : SL w v l) (hl : l.length ≤ 1000000) (eg : ∀ (args : Array Value) (w : World), (callFunc 18 args).run Try.prog w = .ok (.enter 18 args) w) :
    Calls Try.prog 17 #[v, .func (.func 18) #[] #[]] w fun e w' => e = .returned (.bool (risesL l)) ∧ Below w.heap.size w w' := by
  rcases hs.cases with ⟨rfl, rfl⟩ | ⟨g, cap, rfl, hg, hc, hm⟩
  · go_enter Try.func17, Try.ntmps17
    go_wp2
    go_loop [5] (fun i => i = .int .i64 1) (fun _ => 0)
    case atStart => rfl
    case round =>
      subst hrel
      go_wp2
      go_ret
      exact ⟨rfl, Below.refl _ _⟩
  · unfold maxLen at hm
    obtain ⟨n, hn⟩ : ∃ n, n = l.length := ⟨_, rfl⟩
    rw [← hn] at hs hl hc ⊢
    have HN := Lib.hid hn
    have EG := Lib.hid eg
    clear hn eg
    go_enter Try.func17, Try.ntmps17
    go_wp2
    go_loopw [5] (fun i wr => ∃ j : Nat, i = .int .i64 (j : Int) ∧ 1 ≤ j ∧ j ≤ n + 1 ∧ Below w.heap.size w wr ∧ (∀ i a b, i + 1 ≤ j - 1 → l[i]? = some a → l[i + 1]? = some b → a.k.toNat < b.k.toNat)) (fun i _ => n + 1 - (intOf i).toNat)
    case atStart => exact ⟨1, rfl, by omega, by omega, Below.refl _ _, fun i a b h => by omega⟩
    case round =>
      obtain ⟨j, rfl, hj, hjn, hB, hr⟩ := hrel
      have HR := Lib.hid hr
      have HB := Lib.hid hB
      have HS := Lib.hid hs
      clear hr hB hs
      by_cases c : j < n
      · obtain ⟨k, hk⟩ : ∃ k, k = j - 1 := ⟨_, rfl⟩
        obtain ⟨x, hx⟩ : ∃ x, l[k]? = some x := ⟨_, List.getElem?_eq_getElem (by rw [← HN.out]; omega)⟩
        obtain ⟨y, hy⟩ : ∃ y, l[j]? = some y := ⟨_, List.getElem?_eq_getElem (by rw [← HN.out]; omega)⟩
        have HX := Lib.hid hx
        have HY := Lib.hid hy
        have c2 := Lib.hid (show (j : Int) - 1 = (k : Int) by omega)
        have c5 := Lib.hid (show IntKind.i64.wrap (k : Int) = (k : Int) by rw [IntKind.wrap_i64]; omega)
        have c4 : k < n := by omega
        have hk2 : j = k + 1 := by omega
        have HK := Lib.hid hk2
        clear hx hy hk hk2
        go_upto_region 4 with fail
        refine wp_region_quiet (C := Below wr.heap.size wr) (by kernel_rfl) (by kernel_rfl) (Below.refl _ _).drew ?_
        iterate 3 (refine q_val (v := ?_) (by rfl) ?_ ?_; rotate_left; (· (intro W hC; go_simp; try with_reducible rfl)); (try simp only [Act.put, List.getElem_toArray, List.getElem_cons_succ, List.getElem_cons_zero, List.setIfInBounds_toArray, List.set_cons_zero, List.set_cons_succ]))
        (refine q_val (.int .i64 (k : Int)) (by rfl) (fun W hC => by have e := c2.out; have e2 := c5.out; go_simp) ?_; (try simp only [Act.put, List.getElem_toArray, List.getElem_cons_succ, List.getElem_cons_zero, List.setIfInBounds_toArray, List.set_cons_zero, List.set_cons_succ]))
        (refine q_val (.pointer (some ⟨g, k * 2, none⟩)) (by rfl) (fun W hC => by go_simp) ?_; (try simp only [Act.put, List.getElem_toArray, List.getElem_cons_succ, List.getElem_cons_zero, List.setIfInBounds_toArray, List.set_cons_zero, List.set_cons_succ]))
        (refine q_val (secV x) (by rfl) (fun W hC => run_loadRow 54 _ rfl g (k * 2) (by rfl) #[bv x.k, .string x.d] _ ((HS.out.below (HB.out.trans (hC.mono HB.out.size))).range HX.out) Try.underlying54 rfl size54) ?_; (try simp only [Act.put, List.getElem_toArray, List.getElem_cons_succ, List.getElem_cons_zero, List.setIfInBounds_toArray, List.set_cons_zero, List.set_cons_succ]))
        iterate 2 (refine q_val (v := ?_) (by rfl) ?_ ?_; rotate_left; (· (intro W hC; go_simp; try with_reducible rfl)); (try simp only [Act.put, List.getElem_toArray, List.getElem_cons_succ, List.getElem_cons_zero, List.setIfInBounds_toArray, List.set_cons_zero, List.set_cons_succ]))
        (refine q_val (.pointer (some ⟨g, j * 2, none⟩)) (by rfl) (fun W hC => by go_simp) ?_; (try simp only [Act.put, List.getElem_toArray, List.getElem_cons_succ, List.getElem_cons_zero, List.setIfInBounds_toArray, List.set_cons_zero, List.set_cons_succ]))
        (refine q_val (secV y) (by rfl) (fun W hC => run_loadRow 54 _ rfl g (j * 2) (by rfl) #[bv y.k, .string y.d] _ ((HS.out.below (HB.out.trans (hC.mono HB.out.size))).range HY.out) Try.underlying54 rfl size54) ?_; (try simp only [Act.put, List.getElem_toArray, List.getElem_cons_succ, List.getElem_cons_zero, List.setIfInBounds_toArray, List.set_cons_zero, List.set_cons_succ]))
        (refine q_call (.bool (decide (x.k.toNat < y.k.toNat))) 18 #[secV x, secV y] (by rfl) (fun W hC => by have e := EG.out; go_simp) (fun W hC => calls_in (ahead_any x y W) fun w' hb => hC.trans (hb.mono hC.size)) ?_; (try simp only [Act.put, List.getElem_toArray, List.getElem_cons_succ, List.getElem_cons_zero, List.setIfInBounds_toArray, List.set_cons_zero, List.set_cons_succ]))
        obtain ⟨b, hb⟩ : ∃ b, b = decide (x.k.toNat < y.k.toNat) := ⟨_, rfl⟩
        have HBb := Lib.hid hb
        rw [← hb]
        clear hb
        (refine q_val (v := ?_) (by rfl) ?_ ?_; rotate_left; (· (intro W hC; go_simp; try with_reducible rfl)); (try simp only [Act.put, List.getElem_toArray, List.getElem_cons_succ, List.getElem_cons_zero, List.setIfInBounds_toArray, List.set_cons_zero, List.set_cons_succ]))
        refine wpQuiet_nil ?_
        intro w1 hC
        have HC := Lib.hid (HB.out.trans (hC.mono HB.out.size))
        clear hC
        have hlt := Lib.hid (fun h : b = true => of_decide_eq_true (HBb.out.symm.trans h))
        have hge := Lib.hid (fun h : b = false => of_decide_eq_false (HBb.out.symm.trans h))
        cases b with
        | true =>
          have hlt2 := Lib.hid (hlt.out rfl)
          clear hlt hge
          go_wp2
          go_roundw
          case rel =>
            refine ⟨j + 1, by go_num, by omega, by omega, HC.out, fun i a b h ha hb => ?_⟩
            by_cases q : i + 1 ≤ j - 1
            · exact HR.out i a b q ha hb
            · have e : i = k := by have := HK.out; omega
              subst e
              rw [HX.out] at ha
              rw [← HK.out, HY.out] at hb
              cases ha
              cases hb
              exact hlt2.out
          case measure => simp [intOf]; omega
        | false =>
          have hge2 := Lib.hid (hge.out rfl)
          clear hlt hge
          go_wp2
          go_ret
          exact ⟨ret_bool (rises_not l k x y HX.out (by rw [← HK.out]; exact HY.out) hge2.out).symm, HC.out⟩
      · go_wp2
        go_ret
        exact ⟨ret_bool (rises_take l (j - 1) HR.out (by rw [← HN.out]; omega)).symm, HB.out⟩
end Go.Proofs.Ytmbafeemiclmeaa
