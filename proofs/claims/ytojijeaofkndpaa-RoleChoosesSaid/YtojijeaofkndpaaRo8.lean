/- Ports of plain data. -/
import Derived.Test.YtojijeaofkndpaaRo7
import Derived.Test.YtojijeaofkndpaaStrs
namespace Go.Proofs.Ytojijeaofkndpaa
open Go.RowKit
attribute [local irreducible] wpQuiet wpList
set_option linter.unusedSimpArgs false
set_option linter.unusedVariables false

def PoF (n m k g off : Nat) (x : Rp) (bp bt : Nat) (u4 u5 u17 u18 u27 u28 u29 u30 u31 u32 u33 u34 : Value) (L : Nat → Bool) (v29 v30 v33 v34 : Value) : Act := { tmps := #[.slice (some ⟨g, off, none⟩) n m, undef, .slice none 0 0, .slice none 0 0, bif L 8 then v30 else u4, bif L 9 then v34 else u5, .int .i64 (k : Nat), .pointer (some ⟨bp, 0, none⟩), .pointer (some ⟨bt, 0, none⟩), .int .i64 (k : Nat), .slice (some ⟨g, off, none⟩) n m, .int .i64 (n : Nat), .bool true, .bool true, .int .i64 (k : Nat), .bool true, .bool true, u17, u18, .tuple #[.agg (rpA x), .agg (rpA x)], .slice (some ⟨g, off, none⟩) n m, .int .i64 (k : Nat), .pointer (some ⟨g, off + k * 8, none⟩), .agg (lqA x), .tuple #[.agg (rpA x), .agg (rpA x)], .agg (rpA x), .agg (rpA x), bif L 0 then u4 else u27, bif L 1 then .agg (rpA x) else u28, v29, v30, bif L 4 then u5 else u31, bif L 5 then .agg (rpA x) else u32, v33, v34, undef, undef], defers := [] }
set_option maxRecDepth 100000 in
set_option maxHeartbeats 8000000 in
theorem ports_any (l : List Rp) (n m : Nat) (a : Option Addr) (w : World) (hl : l.length = n) (hnm0 : n ≤ m ∧ m ≤ maxLen) (hr : RowsAt w a 8 lqC l) :
    Calls Try.prog 10 #[.slice a n m] w fun e w' => ∃ u1 u2, e = .returned (.tuple #[u1, u2]) ∧ Own w' w.heap.size 47 8 rpC u1 (l.take 16) ∧ Own w' w.heap.size 77 8 rpC u2 (l.take 16) ∧ Below w.heap.size w w' := by
  have HL := Lib.hid hl
  have HR := Lib.hid hr
  have hnm : n ≤ m := hnm0.1
  have hm2 : (m : Int) ≤ 9223372036854775807 := by have := hnm0.2; unfold maxLen at *; omega
  clear hl hr hnm0
  go_enter Try.func10, Try.ntmps10
  go_upto_region 4 with fail
  rename_i KX hKX
  have HKX := Lib.hid hKX
  clear hKX
  go_loopw [4, 5, 6] (fun v1 v2 i wr => ∃ k : Nat, k ≤ n ∧ k ≤ 16 ∧ i = .int .i64 k ∧ Below w.heap.size w wr ∧ Own wr w.heap.size 47 8 rpC v1 (l.take k) ∧ Own wr w.heap.size 77 8 rpC v2 (l.take k) ∧ Off v1 v2) (fun _ _ i _ => (n - intOf i).toNat)
  case atStart => exact ⟨0, by omega, by omega, rfl, Below.refl _ _, Own.nil _ _ _ _ _, Own.nil _ _ _ _ _, off_nil _⟩
  case round =>
    obtain ⟨k, hk, hk16, rfl, hB, ho1, ho2, hd⟩ := hrel
    have HB := Lib.hid hB
    have O1 := Lib.hid ho1
    have O2 := Lib.hid ho2
    have HD := Lib.hid hd
    clear hB ho1 ho2 hd
    have K0 := Lib.hid (Kb.nil wr)
    by_cases hlt : (k : Int) < (n : Int)
    case neg =>
      go_upto_region 4 with fail
      refine wp_region_lit ?_
      refine wpList_val (.int .i64 (k : Nat)) (by rfl) (by go_simp) ?_
      (try simp only [Act.put, List.getElem_toArray, List.getElem_cons_succ, List.getElem_cons_zero, List.setIfInBounds_toArray, List.set_cons_zero, List.set_cons_succ])
      refine wpList_val (.slice a n m) (by rfl) (by go_simp) ?_
      (try simp only [Act.put, List.getElem_toArray, List.getElem_cons_succ, List.getElem_cons_zero, List.setIfInBounds_toArray, List.set_cons_zero, List.set_cons_succ])
      refine wpList_val (.int .i64 (n : Nat)) (by rfl) (by go_simp) ?_
      (try simp only [Act.put, List.getElem_toArray, List.getElem_cons_succ, List.getElem_cons_zero, List.setIfInBounds_toArray, List.set_cons_zero, List.set_cons_succ])
      refine wpList_val (.bool false) (by rfl) (by have q := hlt; go_simp) ?_
      (try simp only [Act.put, List.getElem_toArray, List.getElem_cons_succ, List.getElem_cons_zero, List.setIfInBounds_toArray, List.set_cons_zero, List.set_cons_succ])
      refine wpList_val (.bool false) (by rfl) (by go_simp) ?_
      (try simp only [Act.put, List.getElem_toArray, List.getElem_cons_succ, List.getElem_cons_zero, List.setIfInBounds_toArray, List.set_cons_zero, List.set_cons_succ])
      refine wpList_skip (by kernel_rfl) ?_
      (try simp only [Act.put, List.getElem_toArray, List.getElem_cons_succ, List.getElem_cons_zero, List.setIfInBounds_toArray, List.set_cons_zero, List.set_cons_succ])
      refine wpList_skip (by kernel_rfl) ?_
      (try simp only [Act.put, List.getElem_toArray, List.getElem_cons_succ, List.getElem_cons_zero, List.setIfInBounds_toArray, List.set_cons_zero, List.set_cons_succ])
      refine wpList_val (.bool false) (by rfl) (run_pick_no (.tmp 13) (.tmp 15) (.const (.bool false)) _ rfl rfl rfl) ?_
      (try simp only [Act.put, List.getElem_toArray, List.getElem_cons_succ, List.getElem_cons_zero, List.setIfInBounds_toArray, List.set_cons_zero, List.set_cons_succ])
      refine wpList_nil ?_
      have e16 : l.take 16 = l.take k := by
        rw [List.take_of_length_le (by rw [HL.out]; omega), List.take_of_length_le (by rw [HL.out]; omega)]
      have Q1 := O1.out
      have Q2 := O2.out
      rw [← e16] at Q1 Q2
      have HQ1 := Lib.hid Q1
      have HQ2 := Lib.hid Q2
      clear Q1 Q2 e16
      go_wp2_with fail
      refine HKX.out _ _ ?_
      go_wp2_with fail
      go_ret2
      exact ⟨_, _, rfl, HQ1.out, HQ2.out, HB.out⟩
    case pos =>
      by_cases h16 : (k : Int) < 16
      case neg =>
        go_upto_region 4 with fail
        refine wp_region_lit ?_
        refine wpList_val (.int .i64 (k : Nat)) (by rfl) (by go_simp) ?_
        (try simp only [Act.put, List.getElem_toArray, List.getElem_cons_succ, List.getElem_cons_zero, List.setIfInBounds_toArray, List.set_cons_zero, List.set_cons_succ])
        refine wpList_val (.slice a n m) (by rfl) (by go_simp) ?_
        (try simp only [Act.put, List.getElem_toArray, List.getElem_cons_succ, List.getElem_cons_zero, List.setIfInBounds_toArray, List.set_cons_zero, List.set_cons_succ])
        refine wpList_val (.int .i64 (n : Nat)) (by rfl) (by go_simp) ?_
        (try simp only [Act.put, List.getElem_toArray, List.getElem_cons_succ, List.getElem_cons_zero, List.setIfInBounds_toArray, List.set_cons_zero, List.set_cons_succ])
        refine wpList_val (.bool true) (by rfl) (by have q := hlt; go_simp) ?_
        (try simp only [Act.put, List.getElem_toArray, List.getElem_cons_succ, List.getElem_cons_zero, List.setIfInBounds_toArray, List.set_cons_zero, List.set_cons_succ])
        refine wpList_val (.bool true) (by rfl) (by go_simp) ?_
        (try simp only [Act.put, List.getElem_toArray, List.getElem_cons_succ, List.getElem_cons_zero, List.setIfInBounds_toArray, List.set_cons_zero, List.set_cons_succ])
        refine wpList_val (.int .i64 (k : Nat)) (by rfl) (by go_simp) ?_
        (try simp only [Act.put, List.getElem_toArray, List.getElem_cons_succ, List.getElem_cons_zero, List.setIfInBounds_toArray, List.set_cons_zero, List.set_cons_succ])
        refine wpList_val (.bool false) (by rfl) (by have q := h16; go_simp) ?_
        (try simp only [Act.put, List.getElem_toArray, List.getElem_cons_succ, List.getElem_cons_zero, List.setIfInBounds_toArray, List.set_cons_zero, List.set_cons_succ])
        refine wpList_val (.bool false) (by rfl) (run_pick_yes (.tmp 13) (.tmp 15) (.const (.bool false)) _ rfl rfl rfl) ?_
        (try simp only [Act.put, List.getElem_toArray, List.getElem_cons_succ, List.getElem_cons_zero, List.setIfInBounds_toArray, List.set_cons_zero, List.set_cons_succ])
        refine wpList_nil ?_
        have e16 : l.take 16 = l.take k := by
          rw [show k = 16 by omega]
        have Q1 := O1.out
        have Q2 := O2.out
        rw [← e16] at Q1 Q2
        have HQ1 := Lib.hid Q1
        have HQ2 := Lib.hid Q2
        clear Q1 Q2 e16
        go_wp2_with fail
        refine HKX.out _ _ ?_
        go_wp2_with fail
        go_ret2
        exact ⟨_, _, rfl, HQ1.out, HQ2.out, HB.out⟩
      case pos =>
        obtain ⟨x, hx⟩ : ∃ x, l[k]? = some x := ⟨_, List.getElem?_eq_getElem (by rw [HL.out]; omega)⟩
        obtain ⟨g, off, rfl, hg, hat⟩ : ∃ g off, a = some ⟨g, off, none⟩ ∧ g < w.heap.size ∧ ∀ j u, (lqC x)[j]? = some u → w.cell? ⟨g, off + k * 8 + j, none⟩ = some u := by
          rcases HR.out with hnil | ⟨g, off, rfl, hg, hc⟩
          · rw [hnil] at hx
            simp at hx
          · exact ⟨g, off, rfl, hg, fun j u hu => by rw [Nat.add_assoc]; exact hc k x hx j u hu⟩
        have RX := Lib.hid (show ∀ W, Below wr.heap.size wr W → W.rangeAt g (off + k * 8) (lqC x) from fun W hW j u hu => by
          rw [(HB.out.trans (hW.mono HB.out.size)).cell (p := ⟨g, off + k * 8 + j, none⟩) hg]
          exact hat j u hu)
        have HX := Lib.hid hx
        clear hx hat
        have hkm : k ≤ m := by omega
        go_upto_region 4 with fail
        refine wp_region_lit ?_
        refine wpList_val (.int .i64 (k : Nat)) (by rfl) (by go_simp) ?_
        (try simp only [Act.put, List.getElem_toArray, List.getElem_cons_succ, List.getElem_cons_zero, List.setIfInBounds_toArray, List.set_cons_zero, List.set_cons_succ])
        refine wpList_val (.slice (some ⟨g, off, none⟩) n m) (by rfl) (by go_simp) ?_
        (try simp only [Act.put, List.getElem_toArray, List.getElem_cons_succ, List.getElem_cons_zero, List.setIfInBounds_toArray, List.set_cons_zero, List.set_cons_succ])
        refine wpList_val (.int .i64 (n : Nat)) (by rfl) (by go_simp) ?_
        (try simp only [Act.put, List.getElem_toArray, List.getElem_cons_succ, List.getElem_cons_zero, List.setIfInBounds_toArray, List.set_cons_zero, List.set_cons_succ])
        refine wpList_val (.bool true) (by rfl) (by have q := hlt; go_simp) ?_
        (try simp only [Act.put, List.getElem_toArray, List.getElem_cons_succ, List.getElem_cons_zero, List.setIfInBounds_toArray, List.set_cons_zero, List.set_cons_succ])
        refine wpList_val (.bool true) (by rfl) (by go_simp) ?_
        (try simp only [Act.put, List.getElem_toArray, List.getElem_cons_succ, List.getElem_cons_zero, List.setIfInBounds_toArray, List.set_cons_zero, List.set_cons_succ])
        refine wpList_val (.int .i64 (k : Nat)) (by rfl) (by go_simp) ?_
        (try simp only [Act.put, List.getElem_toArray, List.getElem_cons_succ, List.getElem_cons_zero, List.setIfInBounds_toArray, List.set_cons_zero, List.set_cons_succ])
        refine wpList_val (.bool true) (by rfl) (by have q := h16; go_simp) ?_
        (try simp only [Act.put, List.getElem_toArray, List.getElem_cons_succ, List.getElem_cons_zero, List.setIfInBounds_toArray, List.set_cons_zero, List.set_cons_succ])
        refine wpList_val (.bool true) (by rfl) (run_pick_yes (.tmp 13) (.tmp 15) (.const (.bool false)) _ rfl rfl rfl) ?_
        (try simp only [Act.put, List.getElem_toArray, List.getElem_cons_succ, List.getElem_cons_zero, List.setIfInBounds_toArray, List.set_cons_zero, List.set_cons_succ])
        refine wpList_nil ?_
        go_upto_region 6 with fail
        refine wp_region_lit ?_
        refine wpList_val (.slice (some ⟨g, off, none⟩) n m) (by rfl) (by go_simp) ?_
        (try simp only [Act.put, List.getElem_toArray, List.getElem_cons_succ, List.getElem_cons_zero, List.setIfInBounds_toArray, List.set_cons_zero, List.set_cons_succ])
        refine wpList_val (.int .i64 (k : Nat)) (by rfl) (by go_simp) ?_
        (try simp only [Act.put, List.getElem_toArray, List.getElem_cons_succ, List.getElem_cons_zero, List.setIfInBounds_toArray, List.set_cons_zero, List.set_cons_succ])
        refine wpList_val (.pointer (some ⟨g, off + k * 8, none⟩)) (by rfl) (by go_simp) ?_
        (try simp only [Act.put, List.getElem_toArray, List.getElem_cons_succ, List.getElem_cons_zero, List.setIfInBounds_toArray, List.set_cons_zero, List.set_cons_succ])
        refine wpList_val (.agg (lqA x)) (by rfl) (run_loadRange 81 _ rfl g (off + k * 8) rfl (lqA x) _ (RX.out _ K0.out.below) Try.underlying81 rfl size81) ?_
        (try simp only [Act.put, List.getElem_toArray, List.getElem_cons_succ, List.getElem_cons_zero, List.setIfInBounds_toArray, List.set_cons_zero, List.set_cons_succ])
        refine kb_call K0.out 20 #[.agg (lqA x)] (.tuple #[.agg (rpA x), .agg (rpA x)]) (by rfl) (by go_simp) (told15_any x wr) ?_
        intro w1 hk
        have K1 := Lib.hid (show Kb wr [] w1 from hk)
        clear hk
        (try simp only [Act.put, List.getElem_toArray, List.getElem_cons_succ, List.getElem_cons_zero, List.setIfInBounds_toArray, List.set_cons_zero, List.set_cons_succ])
        refine wpList_val (.tuple #[.agg (rpA x), .agg (rpA x)]) (by rfl) (by go_simp) ?_
        (try simp only [Act.put, List.getElem_toArray, List.getElem_cons_succ, List.getElem_cons_zero, List.setIfInBounds_toArray, List.set_cons_zero, List.set_cons_succ])
        refine wpList_val (.agg (rpA x)) (by rfl) (by go_simp) ?_
        (try simp only [Act.put, List.getElem_toArray, List.getElem_cons_succ, List.getElem_cons_zero, List.setIfInBounds_toArray, List.set_cons_zero, List.set_cons_succ])
        refine wpList_val (.agg (rpA x)) (by rfl) (by go_simp) ?_
        (try simp only [Act.put, List.getElem_toArray, List.getElem_cons_succ, List.getElem_cons_zero, List.setIfInBounds_toArray, List.set_cons_zero, List.set_cons_succ])
        refine kb_alloc K1.out 47 (nil8) rfl z47 (by rfl) ?_
        intro b2 w2 hb2 hk
        have K2 := Lib.hid (show Kb wr [(b2, nil8, 47)] w2 from hk)
        clear hk hb2
        (try simp only [Act.put, List.getElem_toArray, List.getElem_cons_succ, List.getElem_cons_zero, List.setIfInBounds_toArray, List.set_cons_zero, List.set_cons_succ])
        refine kb_alloc K2.out 77 (nil8) rfl z77 (by rfl) ?_
        intro b3 w3 hb3 hk
        have K3 := Lib.hid (show Kb wr [(b2, nil8, 47), (b3, nil8, 77)] w3 from hk)
        clear hk hb3
        (try simp only [Act.put, List.getElem_toArray, List.getElem_cons_succ, List.getElem_cons_zero, List.setIfInBounds_toArray, List.set_cons_zero, List.set_cons_succ])
        refine kb_row K3.out 0 rfl 47 _ _ (rpA x) rfl rfl rfl rfl (size47) (by rfl) (by kernel_rfl) ?_
        intro w4 hk
        have K4 := Lib.hid (show Kb wr [(b2, rpA x, 47), (b3, nil8, 77)] w4 from hk)
        clear hk
        (try simp only [Act.put, List.getElem_toArray, List.getElem_cons_succ, List.getElem_cons_zero, List.setIfInBounds_toArray, List.set_cons_zero, List.set_cons_succ])
        refine kb_row K4.out 1 rfl 77 _ _ (rpA x) rfl rfl rfl rfl (size77) (by rfl) (by kernel_rfl) ?_
        intro w5 hk
        have K5 := Lib.hid (show Kb wr [(b2, rpA x, 47), (b3, rpA x, 77)] w5 from hk)
        clear hk
        (try simp only [Act.put, List.getElem_toArray, List.getElem_cons_succ, List.getElem_cons_zero, List.setIfInBounds_toArray, List.set_cons_zero, List.set_cons_succ])
        refine wpList_nil ?_
        have HA := Lib.hid (show Ap2 w w.heap.size b2 b3 x u4 u5 (.slice none 0 0) (.slice none 0 0) (l.take k) (l.take k) [] [] w5 from
          ⟨HB.out.trans (K5.out.below.mono HB.out.size), Nat.le_trans HB.out.size K5.out.below.size, K5.out.at (i := 0) rfl, K5.out.at (i := 1) rfl, O1.out.next K5.out.below, O2.out.next K5.out.below, Own.nil _ _ _ _ _, Own.nil _ _ _ _ _, HD.out, off_nil _, off_nil _, off_nil _, off_nil _,
            ⟨(fun e => by have := (O1.out.lt _ e).2; have := K5.out.new (b2, rpA x, 47) (by simp); simp only at this; omega), (fun e => by have := (O1.out.lt _ e).2; have := K5.out.new (b3, rpA x, 77) (by simp); simp only at this; omega)⟩,
            ⟨(fun e => by have := (O2.out.lt _ e).2; have := K5.out.new (b2, rpA x, 47) (by simp); simp only at this; omega), (fun e => by have := (O2.out.lt _ e).2; have := K5.out.new (b3, rpA x, 77) (by simp); simp only at this; omega)⟩⟩)
        have TK := Lib.hid (show l.take k ++ [x] = l.take (k + 1) by have h := tk_step (fun y => y) HX.out; simpa using h)
        have LK := Lib.hid (show (l.take k).length ≤ 1000 by rw [List.length_take]; omega)
        go_upto_region 7 with fail
        refine wp_region_inv_dc (I := fun L ac w' => ∃ (v29 v30 v33 v34 : Value), ac = PoF n m k g off x b2 b3 u4 u5 u17 u18 u27 u28 u29 u30 u31 u32 u33 u34 L v29 v30 v33 v34 ∧ Ap2 w w.heap.size b2 b3 x (bif L 3 then v30 else u4) (bif L 7 then v34 else u5) (bif L 2 then v29 else (.slice none 0 0)) (bif L 6 then v33 else (.slice none 0 0)) (bif L 3 then l.take k ++ [x] else l.take k) (bif L 7 then l.take k ++ [x] else l.take k) (bif L 2 then [x] else []) (bif L 6 then [x] else []) w') (by kernel_rfl) (by kernel_rfl) ⟨u29, u30, u33, u34, by kernel_rfl, HA.out.next (Below.refl _ _).drew⟩ ?_ ?_
        · intro i hi Lx ac w' hI hL haft hdc
          obtain ⟨v29, v30, v33, v34, rfl, hw⟩ := hI
          match i, hi with
          | 0, _ =>
            have hn8 : Lx 8 = false := by
              cases c : Lx 8 with
              | false => rfl
              | true => exact absurd (hdc 8 c 0 (by decide)) (by rw [hL]; decide)
            have e4 : (PoF n m k g off x b2 b3 u4 u5 u17 u18 u27 u28 u29 u30 u31 u32 u33 u34 Lx v29 v30 v33 v34).eval (.tmp 4) = u4 := by show (bif Lx 8 then _ else _) = _; rw [hn8]; rfl
            have g4 : (PoF n m k g off x b2 b3 u4 u5 u17 u18 u27 u28 u29 u30 u31 u32 u33 u34 Lx v29 v30 v33 v34).tmps[4]?.getD undef = u4 := by show (bif Lx 8 then _ else _) = _; rw [hn8]; rfl
            exact i_val rfl (u4) w' (by rfl) (by go_simp) ⟨v29, v30, v33, v34, by kernel_rfl, hw⟩
          | 1, _ =>
            have e7 : (PoF n m k g off x b2 b3 u4 u5 u17 u18 u27 u28 u29 u30 u31 u32 u33 u34 Lx v29 v30 v33 v34).eval (.tmp 7) = .pointer (some ⟨b2, 0, none⟩) := by kernel_rfl
            have g7 : (PoF n m k g off x b2 b3 u4 u5 u17 u18 u27 u28 u29 u30 u31 u32 u33 u34 Lx v29 v30 v33 v34).tmps[7]?.getD undef = .pointer (some ⟨b2, 0, none⟩) := by kernel_rfl
            exact i_val rfl (.agg (rpA x)) w' (by rfl) (run_loadVar_of 47 _ rfl b2 e7 47 (rpA x) _ hw.kp Try.underlying47 rfl size47) ⟨v29, v30, v33, v34, by kernel_rfl, hw⟩
          | 2, _ =>
            have h1 := haft 1 (by decide)
            have e28 : (PoF n m k g off x b2 b3 u4 u5 u17 u18 u27 u28 u29 u30 u31 u32 u33 u34 Lx v29 v30 v33 v34).eval (.tmp 28) = .agg (rpA x) := by show (bif Lx 1 then _ else _) = _; rw [h1]; rfl
            have g28 : (PoF n m k g off x b2 b3 u4 u5 u17 u18 u27 u28 u29 u30 u31 u32 u33 u34 Lx v29 v30 v33 v34).tmps[28]?.getD undef = .agg (rpA x) := by show (bif Lx 1 then _ else _) = _; rw [h1]; rfl
            have hn3 : Lx 3 = false := by
              cases c : Lx 3 with
              | false => rfl
              | true => exact absurd (hdc 3 c 2 (by decide)) (by rw [hL]; decide)
            exact i_val rfl (.slice (some ⟨w'.heap.size, 0, none⟩) 1 1) (w'.alloc (.cells (rpA x) 47)) (by rfl) (run_bs1 25 (.tmp 28) rfl (.agg (rpA x)) _ e28 (one_rp x w')) ⟨(.slice (some ⟨w'.heap.size, 0, none⟩) 1 1), v30, v33, v34, by kernel_rfl, hw.made1⟩
          | 3, _ =>
            have h0 := haft 0 (by decide)
            have e27 : (PoF n m k g off x b2 b3 u4 u5 u17 u18 u27 u28 u29 u30 u31 u32 u33 u34 Lx v29 v30 v33 v34).eval (.tmp 27) = u4 := by show (bif Lx 0 then _ else _) = _; rw [h0]; rfl
            have g27 : (PoF n m k g off x b2 b3 u4 u5 u17 u18 u27 u28 u29 u30 u31 u32 u33 u34 Lx v29 v30 v33 v34).tmps[27]?.getD undef = u4 := by show (bif Lx 0 then _ else _) = _; rw [h0]; rfl
            have e29 : (PoF n m k g off x b2 b3 u4 u5 u17 u18 u27 u28 u29 u30 u31 u32 u33 u34 Lx v29 v30 v33 v34).eval (.tmp 29) = v29 := by kernel_rfl
            have h2 := haft 2 (by decide)
            simp only [hL, h2, cond_true, cond_false] at hw
            have hn8 : Lx 8 = false := by
              cases c : Lx 8 with
              | false => rfl
              | true => exact absurd (hdc 8 c 3 (by decide)) (by rw [hL]; decide)
            obtain ⟨u, w2, hrun, hw2⟩ := hw.app1 LK.out
            exact i_wp rfl (by rfl) (wp_append_lst _ _ 25 rfl u w2 (by rw [e27, e29]; exact hrun) ⟨v29, u, v33, v34, by unfold PoF; rw [show upd Lx 3 8 = Lx 8 from rfl, hn8]; kernel_rfl, by rw [show upd Lx 3 2 = true from h2]; exact hw2⟩)
          | 4, _ =>
            have hn9 : Lx 9 = false := by
              cases c : Lx 9 with
              | false => rfl
              | true => exact absurd (hdc 9 c 4 (by decide)) (by rw [hL]; decide)
            have e5 : (PoF n m k g off x b2 b3 u4 u5 u17 u18 u27 u28 u29 u30 u31 u32 u33 u34 Lx v29 v30 v33 v34).eval (.tmp 5) = u5 := by show (bif Lx 9 then _ else _) = _; rw [hn9]; rfl
            have g5 : (PoF n m k g off x b2 b3 u4 u5 u17 u18 u27 u28 u29 u30 u31 u32 u33 u34 Lx v29 v30 v33 v34).tmps[5]?.getD undef = u5 := by show (bif Lx 9 then _ else _) = _; rw [hn9]; rfl
            exact i_val rfl (u5) w' (by rfl) (by go_simp) ⟨v29, v30, v33, v34, by kernel_rfl, hw⟩
          | 5, _ =>
            have e8 : (PoF n m k g off x b2 b3 u4 u5 u17 u18 u27 u28 u29 u30 u31 u32 u33 u34 Lx v29 v30 v33 v34).eval (.tmp 8) = .pointer (some ⟨b3, 0, none⟩) := by kernel_rfl
            have g8 : (PoF n m k g off x b2 b3 u4 u5 u17 u18 u27 u28 u29 u30 u31 u32 u33 u34 Lx v29 v30 v33 v34).tmps[8]?.getD undef = .pointer (some ⟨b3, 0, none⟩) := by kernel_rfl
            exact i_val rfl (.agg (rpA x)) w' (by rfl) (run_loadVar_of 77 _ rfl b3 e8 77 (rpA x) _ hw.kt Try.underlying77 rfl size77) ⟨v29, v30, v33, v34, by kernel_rfl, hw⟩
          | 6, _ =>
            have h5 := haft 5 (by decide)
            have e32 : (PoF n m k g off x b2 b3 u4 u5 u17 u18 u27 u28 u29 u30 u31 u32 u33 u34 Lx v29 v30 v33 v34).eval (.tmp 32) = .agg (rpA x) := by show (bif Lx 5 then _ else _) = _; rw [h5]; rfl
            have g32 : (PoF n m k g off x b2 b3 u4 u5 u17 u18 u27 u28 u29 u30 u31 u32 u33 u34 Lx v29 v30 v33 v34).tmps[32]?.getD undef = .agg (rpA x) := by show (bif Lx 5 then _ else _) = _; rw [h5]; rfl
            exact i_val rfl (.slice (some ⟨w'.heap.size, 0, none⟩) 1 1) (w'.alloc (.cells (rpA x) 77)) (by rfl) (run_bs1 26 (.tmp 32) rfl (.agg (rpA x)) _ e32 (one_rq x w')) ⟨v29, v30, (.slice (some ⟨w'.heap.size, 0, none⟩) 1 1), v34, by kernel_rfl, hw.made2⟩
          | 7, _ =>
            have h4 := haft 4 (by decide)
            have e31 : (PoF n m k g off x b2 b3 u4 u5 u17 u18 u27 u28 u29 u30 u31 u32 u33 u34 Lx v29 v30 v33 v34).eval (.tmp 31) = u5 := by show (bif Lx 4 then _ else _) = _; rw [h4]; rfl
            have g31 : (PoF n m k g off x b2 b3 u4 u5 u17 u18 u27 u28 u29 u30 u31 u32 u33 u34 Lx v29 v30 v33 v34).tmps[31]?.getD undef = u5 := by show (bif Lx 4 then _ else _) = _; rw [h4]; rfl
            have e33 : (PoF n m k g off x b2 b3 u4 u5 u17 u18 u27 u28 u29 u30 u31 u32 u33 u34 Lx v29 v30 v33 v34).eval (.tmp 33) = v33 := by kernel_rfl
            have h6 := haft 6 (by decide)
            simp only [hL, h6, cond_true, cond_false] at hw
            have hn9 : Lx 9 = false := by
              cases c : Lx 9 with
              | false => rfl
              | true => exact absurd (hdc 9 c 7 (by decide)) (by rw [hL]; decide)
            obtain ⟨u, w2, hrun, hw2⟩ := hw.app2 LK.out
            exact i_wp rfl (by rfl) (wp_append_lst _ _ 26 rfl u w2 (by rw [e31, e33]; exact hrun) ⟨v29, v30, v33, u, by unfold PoF; rw [show upd Lx 7 9 = Lx 9 from rfl, hn9]; kernel_rfl, by rw [show upd Lx 7 6 = true from h6]; exact hw2⟩)
          | 8, _ =>
            have e30 : (PoF n m k g off x b2 b3 u4 u5 u17 u18 u27 u28 u29 u30 u31 u32 u33 u34 Lx v29 v30 v33 v34).eval (.tmp 30) = v30 := by kernel_rfl
            have g30 : (PoF n m k g off x b2 b3 u4 u5 u17 u18 u27 u28 u29 u30 u31 u32 u33 u34 Lx v29 v30 v33 v34).tmps[30]?.getD undef = v30 := by kernel_rfl
            exact i_val rfl (v30) w' (by rfl) (by go_simp) ⟨v29, v30, v33, v34, by kernel_rfl, hw⟩
          | 9, _ =>
            have e34 : (PoF n m k g off x b2 b3 u4 u5 u17 u18 u27 u28 u29 u30 u31 u32 u33 u34 Lx v29 v30 v33 v34).eval (.tmp 34) = v34 := by kernel_rfl
            have g34 : (PoF n m k g off x b2 b3 u4 u5 u17 u18 u27 u28 u29 u30 u31 u32 u33 u34 Lx v29 v30 v33 v34).tmps[34]?.getD undef = v34 := by kernel_rfl
            exact i_val rfl (v34) w' (by rfl) (by go_simp) ⟨v29, v30, v33, v34, by kernel_rfl, hw⟩
          | q + 10, h =>
            exfalso
            have h2 : q + 10 < 10 := h
            omega
        intro Lx ac w9 hI hall
        obtain ⟨v29, v30, v33, v34, rfl, hw⟩ := hI
        have hfr : PoF n m k g off x b2 b3 u4 u5 u17 u18 u27 u28 u29 u30 u31 u32 u33 u34 Lx v29 v30 v33 v34 = { tmps := #[.slice (some ⟨g, off, none⟩) n m, undef, .slice none 0 0, .slice none 0 0, v30, v34, .int .i64 (k : Nat), .pointer (some ⟨b2, 0, none⟩), .pointer (some ⟨b3, 0, none⟩), .int .i64 (k : Nat), .slice (some ⟨g, off, none⟩) n m, .int .i64 (n : Nat), .bool true, .bool true, .int .i64 (k : Nat), .bool true, .bool true, u17, u18, .tuple #[.agg (rpA x), .agg (rpA x)], .slice (some ⟨g, off, none⟩) n m, .int .i64 (k : Nat), .pointer (some ⟨g, off + k * 8, none⟩), .agg (lqA x), .tuple #[.agg (rpA x), .agg (rpA x)], .agg (rpA x), .agg (rpA x), u4, .agg (rpA x), v29, v30, u5, .agg (rpA x), v33, v34, undef, undef], defers := [] } := by unfold PoF; simp only [hall 0 (by decide), hall 1 (by decide), hall 4 (by decide), hall 5 (by decide), hall 8 (by decide), hall 9 (by decide), cond_true]
        rw [hfr]
        clear hfr
        simp only [hall 3 (by decide), hall 7 (by decide), cond_true] at hw
        have HW := Lib.hid hw
        clear hw hall
        go_wp2_with fail
        go_roundw
        case rel => exact ⟨k + 1, by omega, by omega, by go_num, HW.out.below, by rw [← TK.out]; exact HW.out.o1, by rw [← TK.out]; exact HW.out.o2, HW.out.d12⟩
        case measure => simp [intOf]; omega
end Go.Proofs.Ytojijeaofkndpaa
