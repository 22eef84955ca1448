/- The choice. -/
import Derived.Test.YtojijeaofkndpaaRo5
namespace Go.Proofs.Ytojijeaofkndpaa
open Go.RowKit
attribute [local irreducible] wpQuiet wpList
set_option linter.unusedSimpArgs false
set_option linter.unusedVariables false

theorem best_some {self : Nat} {l : List Rp} : ∀ {k : Nat} {y : Nat × Rp}, bestU self l k = some y → y.1 < k ∧ l[y.1]? = some y.2 ∧ wayB self y.2 = true
  | 0, y, h => by cases h
  | k + 1, y, h => by
    cases hx : l[k]? with
    | none =>
      have e : bestU self l (k + 1) = bestU self l k := by
        show (match l[k]? with | none => bestU self l k | some x => if wayB self x && (match bestU self l k with | none => true | some y => aheadB x y.2) then some (k, x) else bestU self l k) = _
        rw [hx]
      rw [e] at h
      obtain ⟨h1, h2⟩ := best_some h
      exact ⟨by omega, h2⟩
    | some x =>
      cases c : (wayB self x && (match bestU self l k with | none => true | some y => aheadB x y.2)) with
      | false =>
        rw [best_no hx c] at h
        obtain ⟨h1, h2⟩ := best_some h
        exact ⟨by omega, h2⟩
      | true =>
        rw [best_yes hx c] at h
        injection h with h
        subst h
        rw [Bool.and_eq_true] at c
        exact ⟨by simp, hx, c.1⟩
def rootN (self : Nat) : Option (Nat × Rp) → Nat
  | none => self
  | some y => if y.2.v.r < self then y.2.v.r else self
def costN (self : Nat) : Option (Nat × Rp) → Nat
  | none => 0
  | some y => if y.2.v.r < self then (plusV y.2.v y.2.c).c else 0
def portN (self : Nat) : Option (Nat × Rp) → Int
  | none => 0
  | some y => if y.2.v.r < self then (y.1 : Int) + 1 else 0
theorem kb_ne {w0 w : World} {b b' : Nat} {c c' : Array Value} {t t' : TypeId} {l : List (Nat × Array Value × TypeId)} (K : Kb w0 ((b, c, t) :: (b', c', t') :: l) w) : b ≠ b' := by
  have := K.nd
  simp at this
  exact this.1.1
/-- The slots, while the region runs. -/
def ChG (self n m : Nat) (a : Option Addr) (y : Nat × Rp) (b1 b2 b5 : Nat) (L : Nat → Bool) : Act := { tmps := #[.int .u64 (self : Nat), .slice a n m, undef, undef, .pointer (some ⟨b1, 0, none⟩), .pointer (some ⟨b2, 0, none⟩), .pointer (some ⟨b5, 0, none⟩), undef, undef, undef, .int .u64 (self : Nat), .agg (chA self 0 0 (.slice none 0 0) (.slice none 0 0)), .int .u64 (self : Nat), .slice a n m, .agg (firstA (some y)), .agg (firstA (some y)), .agg (nilW), .bool true, .bool true, .pointer (some ⟨b5, 0, none⟩), .pointer (some ⟨b5, 0, none⟩), .int .u64 ((plusV y.2.v y.2.c).r : Nat), .int .u64 (self : Nat), .bool true, .bool true, bif L 0 then .pointer (some ⟨b5, 0, none⟩) else undef, bif L 1 then .pointer (some ⟨b5, 0, none⟩) else undef, bif L 2 then .int .u64 ((plusV y.2.v y.2.c).r : Nat) else undef, bif L 3 then .pointer (some ⟨b5, 0, none⟩) else undef, bif L 4 then .pointer (some ⟨b5, 1, none⟩) else undef, bif L 5 then .int .u32 ((plusV y.2.v y.2.c).c : Nat) else undef, bif L 6 then .pointer (some ⟨b5, 5, none⟩) else undef, bif L 7 then .int .i64 ((y.1 : Int) + 1) else undef, bif L 8 then .pointer (some ⟨b2, 0, none⟩) else undef, bif L 10 then .pointer (some ⟨b2, 1, none⟩) else undef, bif L 12 then .pointer (some ⟨b2, 2, none⟩) else undef, undef, undef, undef, undef, undef, undef, undef, undef, undef, undef, undef, undef, undef, undef, undef, undef, undef, undef, undef, undef, undef, undef, undef, undef, undef, undef, undef, undef, undef, undef, undef, undef, undef, undef, undef, undef, undef, undef, undef, undef], defers := [] }
set_option maxRecDepth 100000 in
set_option maxHeartbeats 8000000 in
theorem choose_any (self : Nat) (l : List Rp) (n m : Nat) (a : Option Addr) (w : World) (B : Nat) (hl : l.length = n) (hn : n ≤ 100) (ho : Own w B 47 8 rpC (.slice a n m) l) (hok : ∀ x ∈ l, x.ok) :
    Calls Try.prog 11 #[.int .u64 (self : Nat), .slice a n m] w fun e w' => ∃ u1 u2, e = .returned (.agg (chA (rootN self (bestU self l n)) (costN self (bestU self l n)) (portN self (bestU self l n)) u1 u2)) ∧
      Own w' w.heap.size 3 1 inC u1 (rolesE self (rootN self (bestU self l n)) (costN self (bestU self l n)) (portN self (bestU self l n)) l n) ∧ Own w' w.heap.size 44 4 vcC u2 (tellsK self (rootN self (bestU self l n)) (costN self (bestU self l n)) l n) ∧ Below w.heap.size w w' := by
  obtain ⟨F, hF⟩ : ∃ F, F = bestU self l n := ⟨_, rfl⟩
  have BS := Lib.hid (fun y (h : F = some y) => best_some (self := self) (l := l) (k := n) (y := y) (hF ▸ h))
  have BA := Lib.hid (fun w (ho : Own w B 47 8 rpC (.slice a n m) l) => best_any self l n m a w B hl hn ho hok)
  have HO := Lib.hid ho
  have HL := Lib.hid hl
  rw [← hF] at BA ⊢
  clear hF ho hl hok
  cases F with
  | none =>
    rw [show rootN self none = self from rfl, show costN self none = 0 from rfl, show portN self none = 0 from rfl]
    have K := Lib.hid (Kb.nil w)
    go_enter Try.func11, Try.ntmps11
    go_upto_region 0 with fail
    refine wp_region_lit ?_
    refine kb_alloc K.out 34 (nilCh) rfl z34c (by rfl) ?_
    intro b1 w1 hb1 hk
    have K1 := Lib.hid (show Kb w [(b1, nilCh, 34)] w1 from hk)
    clear hk hb1
    (try simp only [Act.put, List.getElem_toArray, List.getElem_cons_succ, List.getElem_cons_zero, List.setIfInBounds_toArray, List.set_cons_zero, List.set_cons_succ])
    refine wpList_nil ?_
    go_upto_region 1 with fail
    refine wp_region_lit ?_
    refine wpList_val (.int .u64 (self : Nat)) (by rfl) (by go_simp) ?_
    (try simp only [Act.put, List.getElem_toArray, List.getElem_cons_succ, List.getElem_cons_zero, List.setIfInBounds_toArray, List.set_cons_zero, List.set_cons_succ])
    refine wpList_val (.agg (chA self 0 0 (.slice none 0 0) (.slice none 0 0))) (by rfl) (run_build_of 34 [(0, .tmp 10)] rfl _ (chA self 0 0 (.slice none 0 0) (.slice none 0 0)) rfl (by kernel_rfl)) ?_
    (try simp only [Act.put, List.getElem_toArray, List.getElem_cons_succ, List.getElem_cons_zero, List.setIfInBounds_toArray, List.set_cons_zero, List.set_cons_succ])
    refine kb_alloc K1.out 34 (nilCh) rfl z34c (by rfl) ?_
    intro b2 w2 hb2 hk
    have K2 := Lib.hid (show Kb w [(b1, nilCh, 34), (b2, nilCh, 34)] w2 from hk)
    clear hk hb2
    (try simp only [Act.put, List.getElem_toArray, List.getElem_cons_succ, List.getElem_cons_zero, List.setIfInBounds_toArray, List.set_cons_zero, List.set_cons_succ])
    refine kb_row K2.out 1 rfl 34 _ _ (chA self 0 0 (.slice none 0 0) (.slice none 0 0)) rfl rfl rfl rfl (size34c) (by rfl) (by kernel_rfl) ?_
    intro w3 hk
    have K3 := Lib.hid (show Kb w [(b1, nilCh, 34), (b2, chA self 0 0 (.slice none 0 0) (.slice none 0 0), 34)] w3 from hk)
    clear hk
    (try simp only [Act.put, List.getElem_toArray, List.getElem_cons_succ, List.getElem_cons_zero, List.setIfInBounds_toArray, List.set_cons_zero, List.set_cons_succ])
    refine wpList_nil ?_
    go_upto_region 2 with fail
    refine wp_region_lit ?_
    refine wpList_val (.int .u64 (self : Nat)) (by rfl) (by go_simp) ?_
    (try simp only [Act.put, List.getElem_toArray, List.getElem_cons_succ, List.getElem_cons_zero, List.setIfInBounds_toArray, List.set_cons_zero, List.set_cons_succ])
    refine wpList_val (.slice a n m) (by rfl) (by go_simp) ?_
    (try simp only [Act.put, List.getElem_toArray, List.getElem_cons_succ, List.getElem_cons_zero, List.setIfInBounds_toArray, List.set_cons_zero, List.set_cons_succ])
    refine kb_call K3.out 21 #[.int .u64 (self : Nat), .slice a n m] (.agg (firstA none)) (by rfl) (by go_simp) (BA.out w3 (HO.out.next K3.out.below)) ?_
    intro w4 hk
    have K4 := Lib.hid (show Kb w [(b1, nilCh, 34), (b2, chA self 0 0 (.slice none 0 0) (.slice none 0 0), 34)] w4 from hk)
    clear hk
    (try simp only [Act.put, List.getElem_toArray, List.getElem_cons_succ, List.getElem_cons_zero, List.setIfInBounds_toArray, List.set_cons_zero, List.set_cons_succ])
    refine kb_alloc K4.out 83 (nilW) rfl z83 (by rfl) ?_
    intro b5 w5 hb5 hk
    have K5 := Lib.hid (show Kb w [(b1, nilCh, 34), (b2, chA self 0 0 (.slice none 0 0) (.slice none 0 0), 34), (b5, nilW, 83)] w5 from hk)
    clear hk hb5
    (try simp only [Act.put, List.getElem_toArray, List.getElem_cons_succ, List.getElem_cons_zero, List.setIfInBounds_toArray, List.set_cons_zero, List.set_cons_succ])
    refine kb_row K5.out 2 rfl 83 _ _ (firstA none) rfl rfl rfl rfl (size83) (by rfl) (by kernel_rfl) ?_
    intro w6 hk
    have K6 := Lib.hid (show Kb w [(b1, nilCh, 34), (b2, chA self 0 0 (.slice none 0 0) (.slice none 0 0), 34), (b5, firstA none, 83)] w6 from hk)
    clear hk
    (try simp only [Act.put, List.getElem_toArray, List.getElem_cons_succ, List.getElem_cons_zero, List.setIfInBounds_toArray, List.set_cons_zero, List.set_cons_succ])
    refine wpList_nil ?_
    go_upto_region 3 with fail
    rename_i K5 hK5 KZ hKZ
    have HK5 := Lib.hid hK5
    clear hK5
    refine wp_region_lit ?_
    refine wpList_val (.agg (firstA none)) (by rfl) (kb_all K6.out 2 rfl 83 _ rfl rfl Try.underlying83 rfl (size83)) ?_
    (try simp only [Act.put, List.getElem_toArray, List.getElem_cons_succ, List.getElem_cons_zero, List.setIfInBounds_toArray, List.set_cons_zero, List.set_cons_succ])
    refine wpList_val (.agg (nilW)) (by rfl) (run_build_of 83 [] rfl [] nilW rfl (by kernel_rfl)) ?_
    (try simp only [Act.put, List.getElem_toArray, List.getElem_cons_succ, List.getElem_cons_zero, List.setIfInBounds_toArray, List.set_cons_zero, List.set_cons_succ])
    refine wpList_val (.bool false) (by rfl) (by have q : ∀ W, (Op.equalIn 10000 83 (.agg (firstA none)) (.agg nilW)).run Try.prog W = .ok true W := way_zero; go_simp) ?_
    (try simp only [Act.put, List.getElem_toArray, List.getElem_cons_succ, List.getElem_cons_zero, List.setIfInBounds_toArray, List.set_cons_zero, List.set_cons_succ])
    refine wpList_val (.bool false) (by rfl) (by go_simp) ?_
    (try simp only [Act.put, List.getElem_toArray, List.getElem_cons_succ, List.getElem_cons_zero, List.setIfInBounds_toArray, List.set_cons_zero, List.set_cons_succ])
    refine wpList_skip (by kernel_rfl) ?_
    (try simp only [Act.put, List.getElem_toArray, List.getElem_cons_succ, List.getElem_cons_zero, List.setIfInBounds_toArray, List.set_cons_zero, List.set_cons_succ])
    refine wpList_skip (by kernel_rfl) ?_
    (try simp only [Act.put, List.getElem_toArray, List.getElem_cons_succ, List.getElem_cons_zero, List.setIfInBounds_toArray, List.set_cons_zero, List.set_cons_succ])
    refine wpList_skip (by kernel_rfl) ?_
    (try simp only [Act.put, List.getElem_toArray, List.getElem_cons_succ, List.getElem_cons_zero, List.setIfInBounds_toArray, List.set_cons_zero, List.set_cons_succ])
    refine wpList_skip (by kernel_rfl) ?_
    (try simp only [Act.put, List.getElem_toArray, List.getElem_cons_succ, List.getElem_cons_zero, List.setIfInBounds_toArray, List.set_cons_zero, List.set_cons_succ])
    refine wpList_skip (by kernel_rfl) ?_
    (try simp only [Act.put, List.getElem_toArray, List.getElem_cons_succ, List.getElem_cons_zero, List.setIfInBounds_toArray, List.set_cons_zero, List.set_cons_succ])
    refine wpList_val (.bool false) (by rfl) (run_pick_no (.tmp 18) (.tmp 23) (.const (.bool false)) _ rfl rfl rfl) ?_
    (try simp only [Act.put, List.getElem_toArray, List.getElem_cons_succ, List.getElem_cons_zero, List.setIfInBounds_toArray, List.set_cons_zero, List.set_cons_succ])
    refine wpList_nil ?_
    have HC := Lib.hid (show ChW w self 0 0 b1 b2 (.slice none 0 0) (.slice none 0 0) [] [] w6 from
      ⟨K6.out.below, K6.out.at (i := 0) rfl, K6.out.at (i := 1) rfl, K6.out.new (b1, _, 34) (List.mem_cons_self), K6.out.new (b2, _, 34) (List.mem_cons_of_mem _ List.mem_cons_self), kb_ne K6.out, Own.nil _ _ _ _ _, Own.nil _ _ _ _ _, (fun e => by cases e), (fun e => by cases e), (fun e => by cases e), (fun e => by cases e), (fun _ e => by cases e)⟩)
    go_wp2_with fail
    exact HK5.out _ _ (ch5 self l n m a self 0 0 b1 b2 _ _ _ _ _ _ _ _ _ _ _ _ _ _ _ _ _ _ _ _ _ _ _ _ _ _ _ _ _ _ _ _ _ _ _ _ _ _ _ _ _ _ _ _ _ _ _ _ _ _ _ _ _ _ _ _ _ _ _ _ _ _ _ _ _ _ _ _ _ _ _ _ w w6 B HL.out hn (by omega) HO.out HC.out)
  | some y =>
    by_cases hr : y.2.v.r < self
    case pos =>
      have hri : ((plusV y.2.v y.2.c).r : Int) < (self : Int) := by have e : (plusV y.2.v y.2.c).r = y.2.v.r := rfl; omega
      have erootN : rootN self (some y) = y.2.v.r := if_pos hr
      have ecostN : costN self (some y) = (plusV y.2.v y.2.c).c := if_pos hr
      have eportN : portN self (some y) = ((y.1 : Int) + 1) := if_pos hr
      rw [erootN, ecostN, eportN]
      clear erootN ecostN eportN
      have K := Lib.hid (Kb.nil w)
      go_enter Try.func11, Try.ntmps11
      go_upto_region 0 with fail
      refine wp_region_lit ?_
      refine kb_alloc K.out 34 (nilCh) rfl z34c (by rfl) ?_
      intro b1 w1 hb1 hk
      have K1 := Lib.hid (show Kb w [(b1, nilCh, 34)] w1 from hk)
      clear hk hb1
      (try simp only [Act.put, List.getElem_toArray, List.getElem_cons_succ, List.getElem_cons_zero, List.setIfInBounds_toArray, List.set_cons_zero, List.set_cons_succ])
      refine wpList_nil ?_
      go_upto_region 1 with fail
      refine wp_region_lit ?_
      refine wpList_val (.int .u64 (self : Nat)) (by rfl) (by go_simp) ?_
      (try simp only [Act.put, List.getElem_toArray, List.getElem_cons_succ, List.getElem_cons_zero, List.setIfInBounds_toArray, List.set_cons_zero, List.set_cons_succ])
      refine wpList_val (.agg (chA self 0 0 (.slice none 0 0) (.slice none 0 0))) (by rfl) (run_build_of 34 [(0, .tmp 10)] rfl _ (chA self 0 0 (.slice none 0 0) (.slice none 0 0)) rfl (by kernel_rfl)) ?_
      (try simp only [Act.put, List.getElem_toArray, List.getElem_cons_succ, List.getElem_cons_zero, List.setIfInBounds_toArray, List.set_cons_zero, List.set_cons_succ])
      refine kb_alloc K1.out 34 (nilCh) rfl z34c (by rfl) ?_
      intro b2 w2 hb2 hk
      have K2 := Lib.hid (show Kb w [(b1, nilCh, 34), (b2, nilCh, 34)] w2 from hk)
      clear hk hb2
      (try simp only [Act.put, List.getElem_toArray, List.getElem_cons_succ, List.getElem_cons_zero, List.setIfInBounds_toArray, List.set_cons_zero, List.set_cons_succ])
      refine kb_row K2.out 1 rfl 34 _ _ (chA self 0 0 (.slice none 0 0) (.slice none 0 0)) rfl rfl rfl rfl (size34c) (by rfl) (by kernel_rfl) ?_
      intro w3 hk
      have K3 := Lib.hid (show Kb w [(b1, nilCh, 34), (b2, chA self 0 0 (.slice none 0 0) (.slice none 0 0), 34)] w3 from hk)
      clear hk
      (try simp only [Act.put, List.getElem_toArray, List.getElem_cons_succ, List.getElem_cons_zero, List.setIfInBounds_toArray, List.set_cons_zero, List.set_cons_succ])
      refine wpList_nil ?_
      go_upto_region 2 with fail
      refine wp_region_lit ?_
      refine wpList_val (.int .u64 (self : Nat)) (by rfl) (by go_simp) ?_
      (try simp only [Act.put, List.getElem_toArray, List.getElem_cons_succ, List.getElem_cons_zero, List.setIfInBounds_toArray, List.set_cons_zero, List.set_cons_succ])
      refine wpList_val (.slice a n m) (by rfl) (by go_simp) ?_
      (try simp only [Act.put, List.getElem_toArray, List.getElem_cons_succ, List.getElem_cons_zero, List.setIfInBounds_toArray, List.set_cons_zero, List.set_cons_succ])
      refine kb_call K3.out 21 #[.int .u64 (self : Nat), .slice a n m] (.agg (firstA (some y))) (by rfl) (by go_simp) (BA.out w3 (HO.out.next K3.out.below)) ?_
      intro w4 hk
      have K4 := Lib.hid (show Kb w [(b1, nilCh, 34), (b2, chA self 0 0 (.slice none 0 0) (.slice none 0 0), 34)] w4 from hk)
      clear hk
      (try simp only [Act.put, List.getElem_toArray, List.getElem_cons_succ, List.getElem_cons_zero, List.setIfInBounds_toArray, List.set_cons_zero, List.set_cons_succ])
      refine kb_alloc K4.out 83 (nilW) rfl z83 (by rfl) ?_
      intro b5 w5 hb5 hk
      have K5 := Lib.hid (show Kb w [(b1, nilCh, 34), (b2, chA self 0 0 (.slice none 0 0) (.slice none 0 0), 34), (b5, nilW, 83)] w5 from hk)
      clear hk hb5
      (try simp only [Act.put, List.getElem_toArray, List.getElem_cons_succ, List.getElem_cons_zero, List.setIfInBounds_toArray, List.set_cons_zero, List.set_cons_succ])
      refine kb_row K5.out 2 rfl 83 _ _ (firstA (some y)) rfl rfl rfl rfl (size83) (by rfl) (by kernel_rfl) ?_
      intro w6 hk
      have K6 := Lib.hid (show Kb w [(b1, nilCh, 34), (b2, chA self 0 0 (.slice none 0 0) (.slice none 0 0), 34), (b5, firstA (some y), 83)] w6 from hk)
      clear hk
      (try simp only [Act.put, List.getElem_toArray, List.getElem_cons_succ, List.getElem_cons_zero, List.setIfInBounds_toArray, List.set_cons_zero, List.set_cons_succ])
      refine wpList_nil ?_
      go_upto_region 3 with fail
      rename_i K5 hK5 KZ hKZ
      have HK5 := Lib.hid hK5
      clear hK5
      refine wp_region_lit ?_
      refine wpList_val (.agg (firstA (some y))) (by rfl) (kb_all K6.out 2 rfl 83 _ rfl rfl Try.underlying83 rfl (size83)) ?_
      (try simp only [Act.put, List.getElem_toArray, List.getElem_cons_succ, List.getElem_cons_zero, List.setIfInBounds_toArray, List.set_cons_zero, List.set_cons_succ])
      refine wpList_val (.agg (nilW)) (by rfl) (run_build_of 83 [] rfl [] nilW rfl (by kernel_rfl)) ?_
      (try simp only [Act.put, List.getElem_toArray, List.getElem_cons_succ, List.getElem_cons_zero, List.setIfInBounds_toArray, List.set_cons_zero, List.set_cons_succ])
      refine wpList_val (.bool true) (by rfl) (by have q : ∀ W, (Op.equalIn 10000 83 (.agg (firstA (some y))) (.agg nilW)).run Try.prog W = .ok false W := way_some (plusV y.2.v y.2.c) y.2.i ((y.1 : Int) + 1) (by omega); go_simp) ?_
      (try simp only [Act.put, List.getElem_toArray, List.getElem_cons_succ, List.getElem_cons_zero, List.setIfInBounds_toArray, List.set_cons_zero, List.set_cons_succ])
      refine wpList_val (.bool true) (by rfl) (by go_simp) ?_
      (try simp only [Act.put, List.getElem_toArray, List.getElem_cons_succ, List.getElem_cons_zero, List.setIfInBounds_toArray, List.set_cons_zero, List.set_cons_succ])
      refine wpList_val (.pointer (some ⟨b5, 0, none⟩)) (by rfl) (by go_simp) ?_
      (try simp only [Act.put, List.getElem_toArray, List.getElem_cons_succ, List.getElem_cons_zero, List.setIfInBounds_toArray, List.set_cons_zero, List.set_cons_succ])
      refine wpList_val (.pointer (some ⟨b5, 0, none⟩)) (by rfl) (by go_simp) ?_
      (try simp only [Act.put, List.getElem_toArray, List.getElem_cons_succ, List.getElem_cons_zero, List.setIfInBounds_toArray, List.set_cons_zero, List.set_cons_succ])
      refine wpList_val (.int .u64 ((plusV y.2.v y.2.c).r : Nat)) (by rfl) (by have q : w6.cell? ⟨b5, 0, none⟩ = some (.int .u64 ((plusV y.2.v y.2.c).r : Nat)) := K6.out.cell (i := 2) rfl (by rfl); go_simp) ?_
      (try simp only [Act.put, List.getElem_toArray, List.getElem_cons_succ, List.getElem_cons_zero, List.setIfInBounds_toArray, List.set_cons_zero, List.set_cons_succ])
      refine wpList_val (.int .u64 (self : Nat)) (by rfl) (by go_simp) ?_
      (try simp only [Act.put, List.getElem_toArray, List.getElem_cons_succ, List.getElem_cons_zero, List.setIfInBounds_toArray, List.set_cons_zero, List.set_cons_succ])
      refine wpList_val (.bool true) (by rfl) (by have q := hri; go_simp) ?_
      (try simp only [Act.put, List.getElem_toArray, List.getElem_cons_succ, List.getElem_cons_zero, List.setIfInBounds_toArray, List.set_cons_zero, List.set_cons_succ])
      refine wpList_val (.bool true) (by rfl) (run_pick_yes (.tmp 18) (.tmp 23) (.const (.bool false)) _ rfl rfl rfl) ?_
      (try simp only [Act.put, List.getElem_toArray, List.getElem_cons_succ, List.getElem_cons_zero, List.setIfInBounds_toArray, List.set_cons_zero, List.set_cons_succ])
      refine wpList_nil ?_
      go_upto_region 4 with fail
      clear hr hri
      refine wp_region_inv (I := fun L ac w' => ac = ChG self n m a y b1 b2 b5 L ∧ Kb w [(b1, nilCh, 34), (b2, #[.int .u64 (bif L 9 then ((plusV y.2.v y.2.c).r : Nat) else (self : Nat)), .int .u32 (bif L 11 then ((plusV y.2.v y.2.c).c : Nat) else 0), .int .i64 (bif L 13 then ((y.1 : Int) + 1) else 0), .slice none 0 0, .slice none 0 0], 34), (b5, firstA (some y), 83)] w') (by kernel_rfl) (by kernel_rfl) ⟨by kernel_rfl, K6.out.drew⟩ ?_ ?_
      · intro i hi Lx ac w' hI hL haft
        obtain ⟨rfl, hw⟩ := hI
        match i, hi with
        | 0, _ =>
          have g6 : (ChG self n m a y b1 b2 b5 Lx).tmps[6]?.getD undef = .pointer (some ⟨b5, 0, none⟩) := by kernel_rfl
          have e6 : (ChG self n m a y b1 b2 b5 Lx).eval (.tmp 6) = .pointer (some ⟨b5, 0, none⟩) := by kernel_rfl
          exact i_val rfl (.pointer (some ⟨b5, 0, none⟩)) w' (by rfl) (by go_simp) ⟨by kernel_rfl, hw⟩
        | 1, _ =>
          have h0 := haft 0 (by decide)
          have e25 : (ChG self n m a y b1 b2 b5 Lx).eval (.tmp 25) = .pointer (some ⟨b5, 0, none⟩) := by show (bif Lx 0 then _ else _) = _; rw [h0]; rfl
          have g25 : (ChG self n m a y b1 b2 b5 Lx).tmps[25]?.getD undef = .pointer (some ⟨b5, 0, none⟩) := by show (bif Lx 0 then _ else _) = _; rw [h0]; rfl
          exact i_val rfl (.pointer (some ⟨b5, 0, none⟩)) w' (by rfl) (by go_simp) ⟨by kernel_rfl, hw⟩
        | 2, _ =>
          have h1 := haft 1 (by decide)
          have e26 : (ChG self n m a y b1 b2 b5 Lx).eval (.tmp 26) = .pointer (some ⟨b5, 0, none⟩) := by show (bif Lx 1 then _ else _) = _; rw [h1]; rfl
          have g26 : (ChG self n m a y b1 b2 b5 Lx).tmps[26]?.getD undef = .pointer (some ⟨b5, 0, none⟩) := by show (bif Lx 1 then _ else _) = _; rw [h1]; rfl
          exact i_val rfl (.int .u64 ((plusV y.2.v y.2.c).r : Nat)) w' (by rfl) (by have q : w'.cell? ⟨b5, 0, none⟩ = some (.int .u64 ((plusV y.2.v y.2.c).r : Nat)) := Kb.cell (i := 2) hw rfl (by rfl); go_simp) ⟨by kernel_rfl, hw⟩
        | 3, _ =>
          have g6 : (ChG self n m a y b1 b2 b5 Lx).tmps[6]?.getD undef = .pointer (some ⟨b5, 0, none⟩) := by kernel_rfl
          have e6 : (ChG self n m a y b1 b2 b5 Lx).eval (.tmp 6) = .pointer (some ⟨b5, 0, none⟩) := by kernel_rfl
          exact i_val rfl (.pointer (some ⟨b5, 0, none⟩)) w' (by rfl) (by go_simp) ⟨by kernel_rfl, hw⟩
        | 4, _ =>
          have h3 := haft 3 (by decide)
          have e28 : (ChG self n m a y b1 b2 b5 Lx).eval (.tmp 28) = .pointer (some ⟨b5, 0, none⟩) := by show (bif Lx 3 then _ else _) = _; rw [h3]; rfl
          have g28 : (ChG self n m a y b1 b2 b5 Lx).tmps[28]?.getD undef = .pointer (some ⟨b5, 0, none⟩) := by show (bif Lx 3 then _ else _) = _; rw [h3]; rfl
          exact i_val rfl (.pointer (some ⟨b5, 1, none⟩)) w' (by rfl) (by go_simp) ⟨by kernel_rfl, hw⟩
        | 5, _ =>
          have h4 := haft 4 (by decide)
          have e29 : (ChG self n m a y b1 b2 b5 Lx).eval (.tmp 29) = .pointer (some ⟨b5, 1, none⟩) := by show (bif Lx 4 then _ else _) = _; rw [h4]; rfl
          have g29 : (ChG self n m a y b1 b2 b5 Lx).tmps[29]?.getD undef = .pointer (some ⟨b5, 1, none⟩) := by show (bif Lx 4 then _ else _) = _; rw [h4]; rfl
          exact i_val rfl (.int .u32 ((plusV y.2.v y.2.c).c : Nat)) w' (by rfl) (by have q : w'.cell? ⟨b5, 1, none⟩ = some (.int .u32 ((plusV y.2.v y.2.c).c : Nat)) := Kb.cell (i := 2) hw rfl (by rfl); go_simp) ⟨by kernel_rfl, hw⟩
        | 6, _ =>
          have g6 : (ChG self n m a y b1 b2 b5 Lx).tmps[6]?.getD undef = .pointer (some ⟨b5, 0, none⟩) := by kernel_rfl
          have e6 : (ChG self n m a y b1 b2 b5 Lx).eval (.tmp 6) = .pointer (some ⟨b5, 0, none⟩) := by kernel_rfl
          exact i_val rfl (.pointer (some ⟨b5, 5, none⟩)) w' (by rfl) (by go_simp) ⟨by kernel_rfl, hw⟩
        | 7, _ =>
          have h6 := haft 6 (by decide)
          have e31 : (ChG self n m a y b1 b2 b5 Lx).eval (.tmp 31) = .pointer (some ⟨b5, 5, none⟩) := by show (bif Lx 6 then _ else _) = _; rw [h6]; rfl
          have g31 : (ChG self n m a y b1 b2 b5 Lx).tmps[31]?.getD undef = .pointer (some ⟨b5, 5, none⟩) := by show (bif Lx 6 then _ else _) = _; rw [h6]; rfl
          exact i_val rfl (.int .i64 ((y.1 : Int) + 1)) w' (by rfl) (by have q : w'.cell? ⟨b5, 5, none⟩ = some (.int .i64 ((y.1 : Int) + 1)) := Kb.cell (i := 2) hw rfl (by rfl); go_simp) ⟨by kernel_rfl, hw⟩
        | 8, _ =>
          have g5 : (ChG self n m a y b1 b2 b5 Lx).tmps[5]?.getD undef = .pointer (some ⟨b2, 0, none⟩) := by kernel_rfl
          have e5 : (ChG self n m a y b1 b2 b5 Lx).eval (.tmp 5) = .pointer (some ⟨b2, 0, none⟩) := by kernel_rfl
          exact i_val rfl (.pointer (some ⟨b2, 0, none⟩)) w' (by rfl) (by go_simp) ⟨by kernel_rfl, hw⟩
        | 9, _ =>
          have h2 := haft 2 (by decide)
          have e27 : (ChG self n m a y b1 b2 b5 Lx).eval (.tmp 27) = .int .u64 ((plusV y.2.v y.2.c).r : Nat) := by show (bif Lx 2 then _ else _) = _; rw [h2]; rfl
          have g27 : (ChG self n m a y b1 b2 b5 Lx).tmps[27]?.getD undef = .int .u64 ((plusV y.2.v y.2.c).r : Nat) := by show (bif Lx 2 then _ else _) = _; rw [h2]; rfl
          have h8 := haft 8 (by decide)
          have e33 : (ChG self n m a y b1 b2 b5 Lx).eval (.tmp 33) = .pointer (some ⟨b2, 0, none⟩) := by show (bif Lx 8 then _ else _) = _; rw [h8]; rfl
          have g33 : (ChG self n m a y b1 b2 b5 Lx).tmps[33]?.getD undef = .pointer (some ⟨b2, 0, none⟩) := by show (bif Lx 8 then _ else _) = _; rw [h8]; rfl
          exact i_wp rfl (by rfl) (wp_store_cell 29 _ _ rfl ⟨b2, 0, none⟩ (.int .u64 ((plusV y.2.v y.2.c).r : Nat)) e33 e27 (kb_run_set hw (i := 1) rfl 29 0 (.int .u64 (bif Lx 9 then ((plusV y.2.v y.2.c).r : Nat) else (self : Nat))) (.int .u64 ((plusV y.2.v y.2.c).r : Nat)) (by rfl) (fun W h1 h2 => by go_simp)) ⟨by kernel_rfl, cast_blk (Kb.set (i := 1) hw rfl 0 (.int .u64 ((plusV y.2.v y.2.c).r : Nat))) (by rfl)⟩)
        | 10, _ =>
          have g5 : (ChG self n m a y b1 b2 b5 Lx).tmps[5]?.getD undef = .pointer (some ⟨b2, 0, none⟩) := by kernel_rfl
          have e5 : (ChG self n m a y b1 b2 b5 Lx).eval (.tmp 5) = .pointer (some ⟨b2, 0, none⟩) := by kernel_rfl
          exact i_val rfl (.pointer (some ⟨b2, 1, none⟩)) w' (by rfl) (by go_simp) ⟨by kernel_rfl, hw⟩
        | 11, _ =>
          have h5 := haft 5 (by decide)
          have e30 : (ChG self n m a y b1 b2 b5 Lx).eval (.tmp 30) = .int .u32 ((plusV y.2.v y.2.c).c : Nat) := by show (bif Lx 5 then _ else _) = _; rw [h5]; rfl
          have g30 : (ChG self n m a y b1 b2 b5 Lx).tmps[30]?.getD undef = .int .u32 ((plusV y.2.v y.2.c).c : Nat) := by show (bif Lx 5 then _ else _) = _; rw [h5]; rfl
          have h10 := haft 10 (by decide)
          have e34 : (ChG self n m a y b1 b2 b5 Lx).eval (.tmp 34) = .pointer (some ⟨b2, 1, none⟩) := by show (bif Lx 10 then _ else _) = _; rw [h10]; rfl
          have g34 : (ChG self n m a y b1 b2 b5 Lx).tmps[34]?.getD undef = .pointer (some ⟨b2, 1, none⟩) := by show (bif Lx 10 then _ else _) = _; rw [h10]; rfl
          exact i_wp rfl (by rfl) (wp_store_cell 30 _ _ rfl ⟨b2, 1, none⟩ (.int .u32 ((plusV y.2.v y.2.c).c : Nat)) e34 e30 (kb_run_set hw (i := 1) rfl 30 1 (.int .u32 (bif Lx 11 then ((plusV y.2.v y.2.c).c : Nat) else 0)) (.int .u32 ((plusV y.2.v y.2.c).c : Nat)) (by rfl) (fun W h1 h2 => by go_simp)) ⟨by kernel_rfl, cast_blk (Kb.set (i := 1) hw rfl 1 (.int .u32 ((plusV y.2.v y.2.c).c : Nat))) (by rfl)⟩)
        | 12, _ =>
          have g5 : (ChG self n m a y b1 b2 b5 Lx).tmps[5]?.getD undef = .pointer (some ⟨b2, 0, none⟩) := by kernel_rfl
          have e5 : (ChG self n m a y b1 b2 b5 Lx).eval (.tmp 5) = .pointer (some ⟨b2, 0, none⟩) := by kernel_rfl
          exact i_val rfl (.pointer (some ⟨b2, 2, none⟩)) w' (by rfl) (by go_simp) ⟨by kernel_rfl, hw⟩
        | 13, _ =>
          have h7 := haft 7 (by decide)
          have e32 : (ChG self n m a y b1 b2 b5 Lx).eval (.tmp 32) = .int .i64 ((y.1 : Int) + 1) := by show (bif Lx 7 then _ else _) = _; rw [h7]; rfl
          have g32 : (ChG self n m a y b1 b2 b5 Lx).tmps[32]?.getD undef = .int .i64 ((y.1 : Int) + 1) := by show (bif Lx 7 then _ else _) = _; rw [h7]; rfl
          have h12 := haft 12 (by decide)
          have e35 : (ChG self n m a y b1 b2 b5 Lx).eval (.tmp 35) = .pointer (some ⟨b2, 2, none⟩) := by show (bif Lx 12 then _ else _) = _; rw [h12]; rfl
          have g35 : (ChG self n m a y b1 b2 b5 Lx).tmps[35]?.getD undef = .pointer (some ⟨b2, 2, none⟩) := by show (bif Lx 12 then _ else _) = _; rw [h12]; rfl
          exact i_wp rfl (by rfl) (wp_store_cell 3 _ _ rfl ⟨b2, 2, none⟩ (.int .i64 ((y.1 : Int) + 1)) e35 e32 (kb_run_set hw (i := 1) rfl 3 2 (.int .i64 (bif Lx 13 then ((y.1 : Int) + 1) else 0)) (.int .i64 ((y.1 : Int) + 1)) (by rfl) (fun W h1 h2 => by go_simp)) ⟨by kernel_rfl, cast_blk (Kb.set (i := 1) hw rfl 2 (.int .i64 ((y.1 : Int) + 1))) (by rfl)⟩)
        | k + 14, h =>
          exfalso
          have h2 : k + 14 < 14 := h
          omega
      intro Lx ac w7 hI hall
      obtain ⟨rfl, hw⟩ := hI
      have hfr : ChG self n m a y b1 b2 b5 Lx = { tmps := #[.int .u64 (self : Nat), .slice a n m, undef, undef, .pointer (some ⟨b1, 0, none⟩), .pointer (some ⟨b2, 0, none⟩), .pointer (some ⟨b5, 0, none⟩), undef, undef, undef, .int .u64 (self : Nat), .agg (chA self 0 0 (.slice none 0 0) (.slice none 0 0)), .int .u64 (self : Nat), .slice a n m, .agg (firstA (some y)), .agg (firstA (some y)), .agg (nilW), .bool true, .bool true, .pointer (some ⟨b5, 0, none⟩), .pointer (some ⟨b5, 0, none⟩), .int .u64 ((plusV y.2.v y.2.c).r : Nat), .int .u64 (self : Nat), .bool true, .bool true, .pointer (some ⟨b5, 0, none⟩), .pointer (some ⟨b5, 0, none⟩), .int .u64 ((plusV y.2.v y.2.c).r : Nat), .pointer (some ⟨b5, 0, none⟩), .pointer (some ⟨b5, 1, none⟩), .int .u32 ((plusV y.2.v y.2.c).c : Nat), .pointer (some ⟨b5, 5, none⟩), .int .i64 ((y.1 : Int) + 1), .pointer (some ⟨b2, 0, none⟩), .pointer (some ⟨b2, 1, none⟩), .pointer (some ⟨b2, 2, none⟩), undef, undef, undef, undef, undef, undef, undef, undef, undef, undef, undef, undef, undef, undef, undef, undef, undef, undef, undef, undef, undef, undef, undef, undef, undef, undef, undef, undef, undef, undef, undef, undef, undef, undef, undef, undef, undef, undef, undef, undef], defers := [] } := by unfold ChG; simp only [hall 0 (by decide), hall 1 (by decide), hall 2 (by decide), hall 3 (by decide), hall 4 (by decide), hall 5 (by decide), hall 6 (by decide), hall 7 (by decide), hall 8 (by decide), hall 10 (by decide), hall 12 (by decide), cond_true]
      rw [hfr]
      clear hfr
      have hL9 := hall 9 (by decide)
      have hL11 := hall 11 (by decide)
      have hL13 := hall 13 (by decide)
      simp only [hL9, hL11, hL13, cond_true] at hw
      have K7 := Lib.hid (show Kb w [(b1, nilCh, 34), (b2, #[.int .u64 ((plusV y.2.v y.2.c).r : Nat), .int .u32 ((plusV y.2.v y.2.c).c : Nat), .int .i64 ((y.1 : Int) + 1), .slice none 0 0, .slice none 0 0], 34), (b5, firstA (some y), 83)] w7 from hw)
      clear hw hall hL9 hL11 hL13
      have HC := Lib.hid (show ChW w y.2.v.r (plusV y.2.v y.2.c).c ((y.1 : Int) + 1) b1 b2 (.slice none 0 0) (.slice none 0 0) [] [] w7 from
        ⟨K7.out.below, K7.out.at (i := 0) rfl, K7.out.at (i := 1) rfl, K7.out.new (b1, _, 34) (List.mem_cons_self), K7.out.new (b2, _, 34) (List.mem_cons_of_mem _ List.mem_cons_self), kb_ne K7.out, Own.nil _ _ _ _ _, Own.nil _ _ _ _ _, (fun e => by cases e), (fun e => by cases e), (fun e => by cases e), (fun e => by cases e), (fun _ e => by cases e)⟩)
      go_wp2_with fail
      exact HK5.out _ _ (ch5 self l n m a y.2.v.r (plusV y.2.v y.2.c).c ((y.1 : Int) + 1) b1 b2 _ _ _ _ _ _ _ _ _ _ _ _ _ _ _ _ _ _ _ _ _ _ _ _ _ _ _ _ _ _ _ _ _ _ _ _ _ _ _ _ _ _ _ _ _ _ _ _ _ _ _ _ _ _ _ _ _ _ _ _ _ _ _ _ _ _ _ _ _ _ _ _ w w7 B HL.out hn (by have := (BS.out y rfl).1; omega) HO.out HC.out)
    case neg =>
      have hri : ¬ ((plusV y.2.v y.2.c).r : Int) < (self : Int) := by have e : (plusV y.2.v y.2.c).r = y.2.v.r := rfl; omega
      have erootN : rootN self (some y) = self := if_neg hr
      have ecostN : costN self (some y) = 0 := if_neg hr
      have eportN : portN self (some y) = 0 := if_neg hr
      rw [erootN, ecostN, eportN]
      clear erootN ecostN eportN
      have K := Lib.hid (Kb.nil w)
      go_enter Try.func11, Try.ntmps11
      go_upto_region 0 with fail
      refine wp_region_lit ?_
      refine kb_alloc K.out 34 (nilCh) rfl z34c (by rfl) ?_
      intro b1 w1 hb1 hk
      have K1 := Lib.hid (show Kb w [(b1, nilCh, 34)] w1 from hk)
      clear hk hb1
      (try simp only [Act.put, List.getElem_toArray, List.getElem_cons_succ, List.getElem_cons_zero, List.setIfInBounds_toArray, List.set_cons_zero, List.set_cons_succ])
      refine wpList_nil ?_
      go_upto_region 1 with fail
      refine wp_region_lit ?_
      refine wpList_val (.int .u64 (self : Nat)) (by rfl) (by go_simp) ?_
      (try simp only [Act.put, List.getElem_toArray, List.getElem_cons_succ, List.getElem_cons_zero, List.setIfInBounds_toArray, List.set_cons_zero, List.set_cons_succ])
      refine wpList_val (.agg (chA self 0 0 (.slice none 0 0) (.slice none 0 0))) (by rfl) (run_build_of 34 [(0, .tmp 10)] rfl _ (chA self 0 0 (.slice none 0 0) (.slice none 0 0)) rfl (by kernel_rfl)) ?_
      (try simp only [Act.put, List.getElem_toArray, List.getElem_cons_succ, List.getElem_cons_zero, List.setIfInBounds_toArray, List.set_cons_zero, List.set_cons_succ])
      refine kb_alloc K1.out 34 (nilCh) rfl z34c (by rfl) ?_
      intro b2 w2 hb2 hk
      have K2 := Lib.hid (show Kb w [(b1, nilCh, 34), (b2, nilCh, 34)] w2 from hk)
      clear hk hb2
      (try simp only [Act.put, List.getElem_toArray, List.getElem_cons_succ, List.getElem_cons_zero, List.setIfInBounds_toArray, List.set_cons_zero, List.set_cons_succ])
      refine kb_row K2.out 1 rfl 34 _ _ (chA self 0 0 (.slice none 0 0) (.slice none 0 0)) rfl rfl rfl rfl (size34c) (by rfl) (by kernel_rfl) ?_
      intro w3 hk
      have K3 := Lib.hid (show Kb w [(b1, nilCh, 34), (b2, chA self 0 0 (.slice none 0 0) (.slice none 0 0), 34)] w3 from hk)
      clear hk
      (try simp only [Act.put, List.getElem_toArray, List.getElem_cons_succ, List.getElem_cons_zero, List.setIfInBounds_toArray, List.set_cons_zero, List.set_cons_succ])
      refine wpList_nil ?_
      go_upto_region 2 with fail
      refine wp_region_lit ?_
      refine wpList_val (.int .u64 (self : Nat)) (by rfl) (by go_simp) ?_
      (try simp only [Act.put, List.getElem_toArray, List.getElem_cons_succ, List.getElem_cons_zero, List.setIfInBounds_toArray, List.set_cons_zero, List.set_cons_succ])
      refine wpList_val (.slice a n m) (by rfl) (by go_simp) ?_
      (try simp only [Act.put, List.getElem_toArray, List.getElem_cons_succ, List.getElem_cons_zero, List.setIfInBounds_toArray, List.set_cons_zero, List.set_cons_succ])
      refine kb_call K3.out 21 #[.int .u64 (self : Nat), .slice a n m] (.agg (firstA (some y))) (by rfl) (by go_simp) (BA.out w3 (HO.out.next K3.out.below)) ?_
      intro w4 hk
      have K4 := Lib.hid (show Kb w [(b1, nilCh, 34), (b2, chA self 0 0 (.slice none 0 0) (.slice none 0 0), 34)] w4 from hk)
      clear hk
      (try simp only [Act.put, List.getElem_toArray, List.getElem_cons_succ, List.getElem_cons_zero, List.setIfInBounds_toArray, List.set_cons_zero, List.set_cons_succ])
      refine kb_alloc K4.out 83 (nilW) rfl z83 (by rfl) ?_
      intro b5 w5 hb5 hk
      have K5 := Lib.hid (show Kb w [(b1, nilCh, 34), (b2, chA self 0 0 (.slice none 0 0) (.slice none 0 0), 34), (b5, nilW, 83)] w5 from hk)
      clear hk hb5
      (try simp only [Act.put, List.getElem_toArray, List.getElem_cons_succ, List.getElem_cons_zero, List.setIfInBounds_toArray, List.set_cons_zero, List.set_cons_succ])
      refine kb_row K5.out 2 rfl 83 _ _ (firstA (some y)) rfl rfl rfl rfl (size83) (by rfl) (by kernel_rfl) ?_
      intro w6 hk
      have K6 := Lib.hid (show Kb w [(b1, nilCh, 34), (b2, chA self 0 0 (.slice none 0 0) (.slice none 0 0), 34), (b5, firstA (some y), 83)] w6 from hk)
      clear hk
      (try simp only [Act.put, List.getElem_toArray, List.getElem_cons_succ, List.getElem_cons_zero, List.setIfInBounds_toArray, List.set_cons_zero, List.set_cons_succ])
      refine wpList_nil ?_
      go_upto_region 3 with fail
      rename_i K5 hK5 KZ hKZ
      have HK5 := Lib.hid hK5
      clear hK5
      refine wp_region_lit ?_
      refine wpList_val (.agg (firstA (some y))) (by rfl) (kb_all K6.out 2 rfl 83 _ rfl rfl Try.underlying83 rfl (size83)) ?_
      (try simp only [Act.put, List.getElem_toArray, List.getElem_cons_succ, List.getElem_cons_zero, List.setIfInBounds_toArray, List.set_cons_zero, List.set_cons_succ])
      refine wpList_val (.agg (nilW)) (by rfl) (run_build_of 83 [] rfl [] nilW rfl (by kernel_rfl)) ?_
      (try simp only [Act.put, List.getElem_toArray, List.getElem_cons_succ, List.getElem_cons_zero, List.setIfInBounds_toArray, List.set_cons_zero, List.set_cons_succ])
      refine wpList_val (.bool true) (by rfl) (by have q : ∀ W, (Op.equalIn 10000 83 (.agg (firstA (some y))) (.agg nilW)).run Try.prog W = .ok false W := way_some (plusV y.2.v y.2.c) y.2.i ((y.1 : Int) + 1) (by omega); go_simp) ?_
      (try simp only [Act.put, List.getElem_toArray, List.getElem_cons_succ, List.getElem_cons_zero, List.setIfInBounds_toArray, List.set_cons_zero, List.set_cons_succ])
      refine wpList_val (.bool true) (by rfl) (by go_simp) ?_
      (try simp only [Act.put, List.getElem_toArray, List.getElem_cons_succ, List.getElem_cons_zero, List.setIfInBounds_toArray, List.set_cons_zero, List.set_cons_succ])
      refine wpList_val (.pointer (some ⟨b5, 0, none⟩)) (by rfl) (by go_simp) ?_
      (try simp only [Act.put, List.getElem_toArray, List.getElem_cons_succ, List.getElem_cons_zero, List.setIfInBounds_toArray, List.set_cons_zero, List.set_cons_succ])
      refine wpList_val (.pointer (some ⟨b5, 0, none⟩)) (by rfl) (by go_simp) ?_
      (try simp only [Act.put, List.getElem_toArray, List.getElem_cons_succ, List.getElem_cons_zero, List.setIfInBounds_toArray, List.set_cons_zero, List.set_cons_succ])
      refine wpList_val (.int .u64 ((plusV y.2.v y.2.c).r : Nat)) (by rfl) (by have q : w6.cell? ⟨b5, 0, none⟩ = some (.int .u64 ((plusV y.2.v y.2.c).r : Nat)) := K6.out.cell (i := 2) rfl (by rfl); go_simp) ?_
      (try simp only [Act.put, List.getElem_toArray, List.getElem_cons_succ, List.getElem_cons_zero, List.setIfInBounds_toArray, List.set_cons_zero, List.set_cons_succ])
      refine wpList_val (.int .u64 (self : Nat)) (by rfl) (by go_simp) ?_
      (try simp only [Act.put, List.getElem_toArray, List.getElem_cons_succ, List.getElem_cons_zero, List.setIfInBounds_toArray, List.set_cons_zero, List.set_cons_succ])
      refine wpList_val (.bool false) (by rfl) (by have q := hri; go_simp) ?_
      (try simp only [Act.put, List.getElem_toArray, List.getElem_cons_succ, List.getElem_cons_zero, List.setIfInBounds_toArray, List.set_cons_zero, List.set_cons_succ])
      refine wpList_val (.bool false) (by rfl) (run_pick_yes (.tmp 18) (.tmp 23) (.const (.bool false)) _ rfl rfl rfl) ?_
      (try simp only [Act.put, List.getElem_toArray, List.getElem_cons_succ, List.getElem_cons_zero, List.setIfInBounds_toArray, List.set_cons_zero, List.set_cons_succ])
      refine wpList_nil ?_
      have HC := Lib.hid (show ChW w self 0 0 b1 b2 (.slice none 0 0) (.slice none 0 0) [] [] w6 from
        ⟨K6.out.below, K6.out.at (i := 0) rfl, K6.out.at (i := 1) rfl, K6.out.new (b1, _, 34) (List.mem_cons_self), K6.out.new (b2, _, 34) (List.mem_cons_of_mem _ List.mem_cons_self), kb_ne K6.out, Own.nil _ _ _ _ _, Own.nil _ _ _ _ _, (fun e => by cases e), (fun e => by cases e), (fun e => by cases e), (fun e => by cases e), (fun _ e => by cases e)⟩)
      go_wp2_with fail
      exact HK5.out _ _ (ch5 self l n m a self 0 0 b1 b2 _ _ _ _ _ _ _ _ _ _ _ _ _ _ _ _ _ _ _ _ _ _ _ _ _ _ _ _ _ _ _ _ _ _ _ _ _ _ _ _ _ _ _ _ _ _ _ _ _ _ _ _ _ _ _ _ _ _ _ _ _ _ _ _ _ _ _ _ _ _ _ _ w w6 B HL.out hn (by omega) HO.out HC.out)
end Go.Proofs.Ytojijeaofkndpaa
