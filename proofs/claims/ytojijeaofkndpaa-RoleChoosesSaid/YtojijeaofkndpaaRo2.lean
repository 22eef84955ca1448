/- The best way of some. -/
import Derived.Test.YtojijeaofkndpaaRo1
import Derived.Test.YtojijeaofkndpaaEqs
namespace Go.Proofs.Ytojijeaofkndpaa
open Go.RowKit
attribute [local irreducible] wpQuiet wpList
set_option linter.unusedSimpArgs false
set_option linter.unusedVariables false

/-- The best way so far: where it stands, and its port. -/
def bestU (self : Nat) (l : List Rp) : Nat → Option (Nat × Rp)
  | 0 => none
  | k + 1 => match l[k]? with
    | none => bestU self l k
    | some x => if wayB self x && (match bestU self l k with | none => true | some y => aheadB x y.2) then some (k, x) else bestU self l k
def firstA : Option (Nat × Rp) → Array Value
  | none => nilW
  | some y => wyA (plusV y.2.v y.2.c) y.2.i ((y.1 : Int) + 1)
theorem first_size (F : Option (Nat × Rp)) : (firstA F).size = 6 := by cases F <;> rfl
theorem first_one (F : Option (Nat × Rp)) : (firstA F).all (·.oneCell') = true := by
  cases F with
  | none => kernel_rfl
  | some y => kernel_rfl
theorem rp_len (x : Rp) : (rpC x).length = 8 := rfl
theorem best_no {self : Nat} {l : List Rp} {k : Nat} {x : Rp} (hx : l[k]? = some x) (h : (wayB self x && (match bestU self l k with | none => true | some y => aheadB x y.2)) = false) : bestU self l (k + 1) = bestU self l k := by
  show (match l[k]? with | none => bestU self l k | some x => if wayB self x && (match bestU self l k with | none => true | some y => aheadB x y.2) then some (k, x) else bestU self l k) = _
  rw [hx]
  simp only
  rw [h]
  rfl
theorem best_yes {self : Nat} {l : List Rp} {k : Nat} {x : Rp} (hx : l[k]? = some x) (h : (wayB self x && (match bestU self l k with | none => true | some y => aheadB x y.2)) = true) : bestU self l (k + 1) = some (k, x) := by
  show (match l[k]? with | none => bestU self l k | some x => if wayB self x && (match bestU self l k with | none => true | some y => aheadB x y.2) then some (k, x) else bestU self l k) = _
  rw [hx]
  simp only
  rw [h]
  rfl
set_option maxRecDepth 100000 in
set_option maxHeartbeats 4000000 in
theorem equal_w6 (a0 b0 a1 b1 a2 b2 a3 b3 a4 b4 a5 b5 : Int) (w : World) : (Op.equalIn 10000 83 (.agg #[.int .u64 a0, .int .u32 a1, .int .u64 a2, .int .u16 a3, .int .u16 a4, .int .i64 a5]) (.agg #[.int .u64 b0, .int .u32 b1, .int .u64 b2, .int .u16 b3, .int .u16 b4, .int .i64 b5])).run Try.prog w = .ok (decide (a0 = b0) && decide (a1 = b1) && decide (a2 = b2) && decide (a3 = b3) && decide (a4 = b4) && decide (a5 = b5)) w := by
  have hS : Try.prog.underlying 83 = some (.struct (Try.prog.fieldsOf 83)) := by kernel_rfl
  have hp : Try.prog.stoodInHeld 83 = false := by kernel_rfl
  have n48 : ∀ W, (Op.equalIn 9999 44 (.agg #[.int .u64 a0, .int .u32 a1, .int .u64 a2, .int .u16 a3]) (.agg #[.int .u64 b0, .int .u32 b1, .int .u64 b2, .int .u16 b3])).run Try.prog W = .ok (decide (a0 = b0) && decide (a1 = b1) && decide (a2 = b2) && decide (a3 = b3)) W := fun W => equal_48 a0 b0 a1 b1 a2 b2 a3 b3 W
  rw [show (10000 : Nat) = 9999 + 1 from rfl, run_equalIn_agg w 9999 83 _ _ hS hp]
  simp only [Program.fieldsOf, Try.underlying83]
  have u3 := Try.underlying3
  have u40 := Try.underlying40
  go_simp
  by_cases h0 : a0 = b0
  · subst h0
    by_cases h1 : a1 = b1
    · subst h1
      by_cases h2 : a2 = b2
      · subst h2
        by_cases h3 : a3 = b3
        · subst h3
          by_cases h4 : a4 = b4
          · subst h4
            by_cases h5 : a5 = b5
            · subst h5
              simp
            · simp [h5]
          · simp [h4]
        · simp [h3]
      · simp [h2]
    · simp [h1]
  · simp [h0]
theorem way_zero (W : World) : (Op.equalIn 10000 83 (.agg nilW) (.agg nilW)).run Try.prog W = .ok true W := by
  have h := equal_w6 0 0 0 0 0 0 0 0 0 0 0 0 W
  simpa using h
theorem way_some (v : Vc) (i : Nat) (k : Int) (hk : k ≠ 0) (W : World) : (Op.equalIn 10000 83 (.agg (wyA v i k)) (.agg nilW)).run Try.prog W = .ok false W := by
  have h := equal_w6 (v.r : Nat) 0 (v.c : Nat) 0 (v.b : Nat) 0 (v.p : Nat) 0 (i : Nat) 0 k 0 W
  rw [show decide (k = 0) = false by simp [hk], Bool.and_false] at h
  exact h
theorem wrap_i64r {x : Int} (h0 : -9223372036854775808 ≤ x) (h1 : x < 9223372036854775808) : IntKind.i64.wrap x = x := by
  simp [IntKind.wrap, IntKind.bits, IntKind.signed]
  omega
theorem Kb.sub {w0 w : World} {l l' : List (Nat × Array Value × TypeId)} (K : Kb w0 l w) (h : l'.Sublist l) : Kb w0 l' w :=
  ⟨fun x hx => K.all x (h.mem hx), K.below, fun x hx => K.new x (h.mem hx), (h.map _).nodup K.nd⟩
set_option maxRecDepth 100000 in
set_option maxHeartbeats 8000000 in
theorem best_any (self : Nat) (l : List Rp) (n m : Nat) (a : Option Addr) (w : World) (B : Nat) (hl : l.length = n) (hn : n ≤ 100) (ho : Own w B 47 8 rpC (.slice a n m) l) (hok : ∀ x ∈ l, x.ok) :
    Calls Try.prog 21 #[.int .u64 (self : Nat), .slice a n m] w fun e w' => e = .returned (.agg (firstA (bestU self l n))) ∧ Below w.heap.size w w' := by
  have HO := Lib.hid ho
  have HL := Lib.hid hl
  have HOK := Lib.hid hok
  have hcap : n ≤ m ∧ m ≤ maxLen := by
    obtain ⟨a', c', e, h1, h2⟩ := ho.shape
    injection e with _ e2 e3
    subst e3
    omega
  have hm2 : (m : Int) ≤ 9223372036854775807 := by have := hcap.2; unfold maxLen at *; omega
  have hnm : n ≤ m := hcap.1
  clear ho hl hok hcap
  have K := Lib.hid (Kb.nil w)
  go_enter Try.func21, Try.ntmps21
  go_upto_region 0 with fail
  refine wp_region_lit ?_
  refine kb_alloc K.out 83 (nilW) rfl z83 (by rfl) ?_
  intro b1 w1 hb1 hk
  have K1 := Lib.hid (show Kb w [(b1, nilW, 83)] w1 from hk)
  clear hk hb1
  (try simp only [Act.put, List.getElem_toArray, List.getElem_cons_succ, List.getElem_cons_zero, List.setIfInBounds_toArray, List.set_cons_zero, List.set_cons_succ])
  refine wpList_nil ?_
  go_upto_region 1 with fail
  refine wp_region_lit ?_
  refine kb_alloc K1.out 83 (nilW) rfl z83 (by rfl) ?_
  intro b2 w2 hb2 hk
  have K2 := Lib.hid (show Kb w [(b1, nilW, 83), (b2, nilW, 83)] w2 from hk)
  clear hk hb2
  (try simp only [Act.put, List.getElem_toArray, List.getElem_cons_succ, List.getElem_cons_zero, List.setIfInBounds_toArray, List.set_cons_zero, List.set_cons_succ])
  refine wpList_nil ?_
  go_upto_region 2 with fail
  refine wp_region_lit ?_
  refine wpList_val (.slice a n m) (by rfl) (by go_simp) ?_
  (try simp only [Act.put, List.getElem_toArray, List.getElem_cons_succ, List.getElem_cons_zero, List.setIfInBounds_toArray, List.set_cons_zero, List.set_cons_succ])
  refine wpList_val (.int .i64 (n : Nat)) (by rfl) (by go_simp) ?_
  (try simp only [Act.put, List.getElem_toArray, List.getElem_cons_succ, List.getElem_cons_zero, List.setIfInBounds_toArray, List.set_cons_zero, List.set_cons_succ])
  refine wpList_val (.int .i64 0) (by rfl) (by go_simp) ?_
  (try simp only [Act.put, List.getElem_toArray, List.getElem_cons_succ, List.getElem_cons_zero, List.setIfInBounds_toArray, List.set_cons_zero, List.set_cons_succ])
  refine wpList_nil ?_
  go_upto_region 3 with fail
  go_loopw [11] (fun i wr => ∃ k : Nat, k ≤ n ∧ i = .int .i64 k ∧ Kb w [(b1, nilW, 83), (b2, firstA (bestU self l k), 83)] wr) (fun i _ => (n - intOf i).toNat)
  case atStart => exact ⟨0, by omega, rfl, K2.out⟩
  case round =>
    obtain ⟨k, hk, rfl, hK⟩ := hrel
    have KR := Lib.hid hK
    clear hK
    by_cases hlt : (k : Int) < (n : Int)
    case neg =>
      obtain rfl : k = n := by omega
      go_upto_region 3 with fail
      refine wp_region_lit ?_
      refine wpList_val (.bool false) (by rfl) (by have q := hlt; go_simp) ?_
      (try simp only [Act.put, List.getElem_toArray, List.getElem_cons_succ, List.getElem_cons_zero, List.setIfInBounds_toArray, List.set_cons_zero, List.set_cons_succ])
      refine wpList_nil ?_
      go_upto_region 9 with fail
      refine wp_region_lit ?_
      refine wpList_val (.agg (firstA (bestU self l k))) (by rfl) (kb_all KR.out 1 rfl 83 _ rfl rfl Try.underlying83 rfl ((by rw [first_size]; exact size83))) ?_
      (try simp only [Act.put, List.getElem_toArray, List.getElem_cons_succ, List.getElem_cons_zero, List.setIfInBounds_toArray, List.set_cons_zero, List.set_cons_succ])
      refine kb_row KR.out 0 rfl 83 _ _ (firstA (bestU self l k)) rfl rfl rfl rfl ((by rw [first_size]; exact size83)) (by rw [first_size]; rfl) (first_one _) ?_
      intro w11 hk
      have K11 := Lib.hid (show Kb w [(b1, firstA (bestU self l k), 83), (b2, firstA (bestU self l k), 83)] w11 from hk)
      clear hk
      (try simp only [Act.put, List.getElem_toArray, List.getElem_cons_succ, List.getElem_cons_zero, List.setIfInBounds_toArray, List.set_cons_zero, List.set_cons_succ])
      refine wpList_nil ?_
      go_wp2_with fail
      refine bodyPost_ret (v := .agg (firstA (bestU self l k))) (results_cell_row Try.results21 _ _ b1 83 (firstA (bestU self l k)) (0, 0) _ rfl (K11.out.at (i := 0) rfl) Try.underlying83 rfl (by rw [first_size]; exact size83)) rfl ?_
      exact ⟨rfl, K11.out.below⟩
    case pos =>
      obtain ⟨x, hx⟩ : ∃ x, l[k]? = some x := ⟨_, List.getElem?_eq_getElem (by rw [HL.out]; omega)⟩
      have o1 := HO.out
      rw [← HL.out] at o1
      obtain ⟨g, rfl, -, -, hr⟩ := Own.elem rp_len o1 hx
      have R := Lib.hid hr
      have HX := Lib.hid hx
      have OKX := Lib.hid (HOK.out x (List.mem_of_getElem? hx))
      clear o1 hr hx
      have hkm : k ≤ m := by omega
      obtain ⟨F, hF⟩ : ∃ F, F = bestU self l k := ⟨_, rfl⟩
      have HF := Lib.hid hF
      rw [← hF] at KR
      clear hF
      cases hwb : wayB self x
      case false =>
        cases F with
        | none =>
          go_upto_region 3 with fail
          refine wp_region_lit ?_
          refine wpList_val (.bool true) (by rfl) (by have q := hlt; go_simp) ?_
          (try simp only [Act.put, List.getElem_toArray, List.getElem_cons_succ, List.getElem_cons_zero, List.setIfInBounds_toArray, List.set_cons_zero, List.set_cons_succ])
          refine wpList_nil ?_
          go_upto_region 4 with fail
          refine wp_region_lit ?_
          refine wpList_val (.int .i64 (k : Nat)) (by rfl) (by go_simp) ?_
          (try simp only [Act.put, List.getElem_toArray, List.getElem_cons_succ, List.getElem_cons_zero, List.setIfInBounds_toArray, List.set_cons_zero, List.set_cons_succ])
          refine wpList_val (.pointer (some ⟨g, k * 8, none⟩)) (by rfl) (by go_simp) ?_
          (try simp only [Act.put, List.getElem_toArray, List.getElem_cons_succ, List.getElem_cons_zero, List.setIfInBounds_toArray, List.set_cons_zero, List.set_cons_succ])
          refine wpList_val (.agg (rpA x)) (by rfl) (run_loadRange 47 _ rfl g (k * 8) rfl (rpA x) _ (R.out _ KR.out.below) Try.underlying47 rfl size47) ?_
          (try simp only [Act.put, List.getElem_toArray, List.getElem_cons_succ, List.getElem_cons_zero, List.setIfInBounds_toArray, List.set_cons_zero, List.set_cons_succ])
          refine kb_alloc KR.out 47 (nil8) rfl z47 (by rfl) ?_
          intro b11 w11 hb11 hk
          have K11 := Lib.hid (show Kb w [(b1, nilW, 83), (b2, firstA none, 83), (b11, nil8, 47)] w11 from hk)
          clear hk hb11
          (try simp only [Act.put, List.getElem_toArray, List.getElem_cons_succ, List.getElem_cons_zero, List.setIfInBounds_toArray, List.set_cons_zero, List.set_cons_succ])
          refine wpList_val (.int .i64 (k : Nat)) (by rfl) (by go_simp) ?_
          (try simp only [Act.put, List.getElem_toArray, List.getElem_cons_succ, List.getElem_cons_zero, List.setIfInBounds_toArray, List.set_cons_zero, List.set_cons_succ])
          refine kb_row K11.out 2 rfl 47 _ _ (rpA x) rfl rfl rfl rfl (size47) (by rfl) (by kernel_rfl) ?_
          intro w12 hk
          have K12 := Lib.hid (show Kb w [(b1, nilW, 83), (b2, firstA none, 83), (b11, rpA x, 47)] w12 from hk)
          clear hk
          (try simp only [Act.put, List.getElem_toArray, List.getElem_cons_succ, List.getElem_cons_zero, List.setIfInBounds_toArray, List.set_cons_zero, List.set_cons_succ])
          refine wpList_nil ?_
          go_upto_region 5 with fail
          refine wp_region_lit ?_
          refine wpList_val (.agg (rpA x)) (by rfl) (kb_all K12.out 2 rfl 47 _ rfl rfl Try.underlying47 rfl (size47)) ?_
          (try simp only [Act.put, List.getElem_toArray, List.getElem_cons_succ, List.getElem_cons_zero, List.setIfInBounds_toArray, List.set_cons_zero, List.set_cons_succ])
          refine wpList_val (.int .u64 (self : Nat)) (by rfl) (by go_simp) ?_
          (try simp only [Act.put, List.getElem_toArray, List.getElem_cons_succ, List.getElem_cons_zero, List.setIfInBounds_toArray, List.set_cons_zero, List.set_cons_succ])
          refine wpList_val (.int .i64 (k : Nat)) (by rfl) (by go_simp) ?_
          (try simp only [Act.put, List.getElem_toArray, List.getElem_cons_succ, List.getElem_cons_zero, List.setIfInBounds_toArray, List.set_cons_zero, List.set_cons_succ])
          refine wpList_val (.int .i64 ((k : Int) + 1)) (by rfl) (by go_simp; exact wrap_i64r (by omega) (by omega)) ?_
          (try simp only [Act.put, List.getElem_toArray, List.getElem_cons_succ, List.getElem_cons_zero, List.setIfInBounds_toArray, List.set_cons_zero, List.set_cons_succ])
          refine kb_call K12.out 30 #[.agg (rpA x), .int .u64 (self : Nat), .int .i64 ((k : Int) + 1)] (.agg (nilW)) (by rfl) (by go_simp) (by have q := way_any self x ((k : Int) + 1) OKX.out w12; rw [show wayA self x ((k : Int) + 1) = nilW by unfold wayA; rw [hwb]; rfl] at q; exact q) ?_
          intro w13 hk
          have K13 := Lib.hid (show Kb w [(b1, nilW, 83), (b2, firstA none, 83), (b11, rpA x, 47)] w13 from hk)
          clear hk
          (try simp only [Act.put, List.getElem_toArray, List.getElem_cons_succ, List.getElem_cons_zero, List.setIfInBounds_toArray, List.set_cons_zero, List.set_cons_succ])
          refine kb_alloc K13.out 83 (nilW) rfl z83 (by rfl) ?_
          intro b14 w14 hb14 hk
          have K14 := Lib.hid (show Kb w [(b1, nilW, 83), (b2, firstA none, 83), (b11, rpA x, 47), (b14, nilW, 83)] w14 from hk)
          clear hk hb14
          (try simp only [Act.put, List.getElem_toArray, List.getElem_cons_succ, List.getElem_cons_zero, List.setIfInBounds_toArray, List.set_cons_zero, List.set_cons_succ])
          refine kb_row K14.out 3 rfl 83 _ _ (nilW) rfl rfl rfl rfl (size83) (by rfl) (by kernel_rfl) ?_
          intro w15 hk
          have K15 := Lib.hid (show Kb w [(b1, nilW, 83), (b2, firstA none, 83), (b11, rpA x, 47), (b14, nilW, 83)] w15 from hk)
          clear hk
          (try simp only [Act.put, List.getElem_toArray, List.getElem_cons_succ, List.getElem_cons_zero, List.setIfInBounds_toArray, List.set_cons_zero, List.set_cons_succ])
          refine wpList_nil ?_
          go_upto_region 6 with fail
          refine wp_region_lit ?_
          refine wpList_val (.agg (nilW)) (by rfl) (kb_all K15.out 3 rfl 83 _ rfl rfl Try.underlying83 rfl (size83)) ?_
          (try simp only [Act.put, List.getElem_toArray, List.getElem_cons_succ, List.getElem_cons_zero, List.setIfInBounds_toArray, List.set_cons_zero, List.set_cons_succ])
          refine wpList_val (.agg (nilW)) (by rfl) (run_build_of 83 [] rfl [] nilW rfl (by kernel_rfl)) ?_
          (try simp only [Act.put, List.getElem_toArray, List.getElem_cons_succ, List.getElem_cons_zero, List.setIfInBounds_toArray, List.set_cons_zero, List.set_cons_succ])
          refine wpList_val (.bool false) (by rfl) (by have q := way_zero; go_simp) ?_
          (try simp only [Act.put, List.getElem_toArray, List.getElem_cons_succ, List.getElem_cons_zero, List.setIfInBounds_toArray, List.set_cons_zero, List.set_cons_succ])
          refine wpList_val (.bool false) (by rfl) (by go_simp) ?_
          (try simp only [Act.put, List.getElem_toArray, List.getElem_cons_succ, List.getElem_cons_zero, List.setIfInBounds_toArray, List.set_cons_zero, List.set_cons_succ])
          refine wpList_skip (by kernel_rfl) ?_
          (try simp only [Act.put, List.getElem_toArray, List.getElem_cons_succ, List.getElem_cons_zero, List.setIfInBounds_toArray, List.set_cons_zero, List.set_cons_succ])
          refine wpList_skip (by kernel_rfl) ?_
          (try simp only [Act.put, List.getElem_toArray, List.getElem_cons_succ, List.getElem_cons_zero, List.setIfInBounds_toArray, List.set_cons_zero, List.set_cons_succ])
          refine wpList_skip (by kernel_rfl) ?_
          (try simp only [Act.put, List.getElem_toArray, List.getElem_cons_succ, List.getElem_cons_zero, List.setIfInBounds_toArray, List.set_cons_zero, List.set_cons_succ])
          refine wpList_skip (by kernel_rfl) ?_
          (try simp only [Act.put, List.getElem_toArray, List.getElem_cons_succ, List.getElem_cons_zero, List.setIfInBounds_toArray, List.set_cons_zero, List.set_cons_succ])
          refine wpList_skip (by kernel_rfl) ?_
          (try simp only [Act.put, List.getElem_toArray, List.getElem_cons_succ, List.getElem_cons_zero, List.setIfInBounds_toArray, List.set_cons_zero, List.set_cons_succ])
          refine wpList_skip (by kernel_rfl) ?_
          (try simp only [Act.put, List.getElem_toArray, List.getElem_cons_succ, List.getElem_cons_zero, List.setIfInBounds_toArray, List.set_cons_zero, List.set_cons_succ])
          refine wpList_skip (by kernel_rfl) ?_
          (try simp only [Act.put, List.getElem_toArray, List.getElem_cons_succ, List.getElem_cons_zero, List.setIfInBounds_toArray, List.set_cons_zero, List.set_cons_succ])
          refine wpList_skip (by kernel_rfl) ?_
          (try simp only [Act.put, List.getElem_toArray, List.getElem_cons_succ, List.getElem_cons_zero, List.setIfInBounds_toArray, List.set_cons_zero, List.set_cons_succ])
          refine wpList_val (.bool false) (by rfl) (run_pick_no (.tmp 24) (.tmp 32) (.const (.bool false)) _ rfl rfl rfl) ?_
          (try simp only [Act.put, List.getElem_toArray, List.getElem_cons_succ, List.getElem_cons_zero, List.setIfInBounds_toArray, List.set_cons_zero, List.set_cons_succ])
          refine wpList_nil ?_
          go_wp2_with fail
          go_roundw
          case rel => exact ⟨k + 1, by omega, by go_num, by rw [best_no HX.out (by rw [← HF.out, hwb]; rfl)]; rw [← HF.out]; exact K15.out.sub (List.Sublist.cons_cons _ (List.Sublist.cons_cons _ (List.nil_sublist _)))⟩
          case measure => simp [intOf]; omega
        | some y =>
          go_upto_region 3 with fail
          refine wp_region_lit ?_
          refine wpList_val (.bool true) (by rfl) (by have q := hlt; go_simp) ?_
          (try simp only [Act.put, List.getElem_toArray, List.getElem_cons_succ, List.getElem_cons_zero, List.setIfInBounds_toArray, List.set_cons_zero, List.set_cons_succ])
          refine wpList_nil ?_
          go_upto_region 4 with fail
          refine wp_region_lit ?_
          refine wpList_val (.int .i64 (k : Nat)) (by rfl) (by go_simp) ?_
          (try simp only [Act.put, List.getElem_toArray, List.getElem_cons_succ, List.getElem_cons_zero, List.setIfInBounds_toArray, List.set_cons_zero, List.set_cons_succ])
          refine wpList_val (.pointer (some ⟨g, k * 8, none⟩)) (by rfl) (by go_simp) ?_
          (try simp only [Act.put, List.getElem_toArray, List.getElem_cons_succ, List.getElem_cons_zero, List.setIfInBounds_toArray, List.set_cons_zero, List.set_cons_succ])
          refine wpList_val (.agg (rpA x)) (by rfl) (run_loadRange 47 _ rfl g (k * 8) rfl (rpA x) _ (R.out _ KR.out.below) Try.underlying47 rfl size47) ?_
          (try simp only [Act.put, List.getElem_toArray, List.getElem_cons_succ, List.getElem_cons_zero, List.setIfInBounds_toArray, List.set_cons_zero, List.set_cons_succ])
          refine kb_alloc KR.out 47 (nil8) rfl z47 (by rfl) ?_
          intro b11 w11 hb11 hk
          have K11 := Lib.hid (show Kb w [(b1, nilW, 83), (b2, firstA (some y), 83), (b11, nil8, 47)] w11 from hk)
          clear hk hb11
          (try simp only [Act.put, List.getElem_toArray, List.getElem_cons_succ, List.getElem_cons_zero, List.setIfInBounds_toArray, List.set_cons_zero, List.set_cons_succ])
          refine wpList_val (.int .i64 (k : Nat)) (by rfl) (by go_simp) ?_
          (try simp only [Act.put, List.getElem_toArray, List.getElem_cons_succ, List.getElem_cons_zero, List.setIfInBounds_toArray, List.set_cons_zero, List.set_cons_succ])
          refine kb_row K11.out 2 rfl 47 _ _ (rpA x) rfl rfl rfl rfl (size47) (by rfl) (by kernel_rfl) ?_
          intro w12 hk
          have K12 := Lib.hid (show Kb w [(b1, nilW, 83), (b2, firstA (some y), 83), (b11, rpA x, 47)] w12 from hk)
          clear hk
          (try simp only [Act.put, List.getElem_toArray, List.getElem_cons_succ, List.getElem_cons_zero, List.setIfInBounds_toArray, List.set_cons_zero, List.set_cons_succ])
          refine wpList_nil ?_
          go_upto_region 5 with fail
          refine wp_region_lit ?_
          refine wpList_val (.agg (rpA x)) (by rfl) (kb_all K12.out 2 rfl 47 _ rfl rfl Try.underlying47 rfl (size47)) ?_
          (try simp only [Act.put, List.getElem_toArray, List.getElem_cons_succ, List.getElem_cons_zero, List.setIfInBounds_toArray, List.set_cons_zero, List.set_cons_succ])
          refine wpList_val (.int .u64 (self : Nat)) (by rfl) (by go_simp) ?_
          (try simp only [Act.put, List.getElem_toArray, List.getElem_cons_succ, List.getElem_cons_zero, List.setIfInBounds_toArray, List.set_cons_zero, List.set_cons_succ])
          refine wpList_val (.int .i64 (k : Nat)) (by rfl) (by go_simp) ?_
          (try simp only [Act.put, List.getElem_toArray, List.getElem_cons_succ, List.getElem_cons_zero, List.setIfInBounds_toArray, List.set_cons_zero, List.set_cons_succ])
          refine wpList_val (.int .i64 ((k : Int) + 1)) (by rfl) (by go_simp; exact wrap_i64r (by omega) (by omega)) ?_
          (try simp only [Act.put, List.getElem_toArray, List.getElem_cons_succ, List.getElem_cons_zero, List.setIfInBounds_toArray, List.set_cons_zero, List.set_cons_succ])
          refine kb_call K12.out 30 #[.agg (rpA x), .int .u64 (self : Nat), .int .i64 ((k : Int) + 1)] (.agg (nilW)) (by rfl) (by go_simp) (by have q := way_any self x ((k : Int) + 1) OKX.out w12; rw [show wayA self x ((k : Int) + 1) = nilW by unfold wayA; rw [hwb]; rfl] at q; exact q) ?_
          intro w13 hk
          have K13 := Lib.hid (show Kb w [(b1, nilW, 83), (b2, firstA (some y), 83), (b11, rpA x, 47)] w13 from hk)
          clear hk
          (try simp only [Act.put, List.getElem_toArray, List.getElem_cons_succ, List.getElem_cons_zero, List.setIfInBounds_toArray, List.set_cons_zero, List.set_cons_succ])
          refine kb_alloc K13.out 83 (nilW) rfl z83 (by rfl) ?_
          intro b14 w14 hb14 hk
          have K14 := Lib.hid (show Kb w [(b1, nilW, 83), (b2, firstA (some y), 83), (b11, rpA x, 47), (b14, nilW, 83)] w14 from hk)
          clear hk hb14
          (try simp only [Act.put, List.getElem_toArray, List.getElem_cons_succ, List.getElem_cons_zero, List.setIfInBounds_toArray, List.set_cons_zero, List.set_cons_succ])
          refine kb_row K14.out 3 rfl 83 _ _ (nilW) rfl rfl rfl rfl (size83) (by rfl) (by kernel_rfl) ?_
          intro w15 hk
          have K15 := Lib.hid (show Kb w [(b1, nilW, 83), (b2, firstA (some y), 83), (b11, rpA x, 47), (b14, nilW, 83)] w15 from hk)
          clear hk
          (try simp only [Act.put, List.getElem_toArray, List.getElem_cons_succ, List.getElem_cons_zero, List.setIfInBounds_toArray, List.set_cons_zero, List.set_cons_succ])
          refine wpList_nil ?_
          go_upto_region 6 with fail
          refine wp_region_lit ?_
          refine wpList_val (.agg (nilW)) (by rfl) (kb_all K15.out 3 rfl 83 _ rfl rfl Try.underlying83 rfl (size83)) ?_
          (try simp only [Act.put, List.getElem_toArray, List.getElem_cons_succ, List.getElem_cons_zero, List.setIfInBounds_toArray, List.set_cons_zero, List.set_cons_succ])
          refine wpList_val (.agg (nilW)) (by rfl) (run_build_of 83 [] rfl [] nilW rfl (by kernel_rfl)) ?_
          (try simp only [Act.put, List.getElem_toArray, List.getElem_cons_succ, List.getElem_cons_zero, List.setIfInBounds_toArray, List.set_cons_zero, List.set_cons_succ])
          refine wpList_val (.bool false) (by rfl) (by have q := way_zero; go_simp) ?_
          (try simp only [Act.put, List.getElem_toArray, List.getElem_cons_succ, List.getElem_cons_zero, List.setIfInBounds_toArray, List.set_cons_zero, List.set_cons_succ])
          refine wpList_val (.bool false) (by rfl) (by go_simp) ?_
          (try simp only [Act.put, List.getElem_toArray, List.getElem_cons_succ, List.getElem_cons_zero, List.setIfInBounds_toArray, List.set_cons_zero, List.set_cons_succ])
          refine wpList_skip (by kernel_rfl) ?_
          (try simp only [Act.put, List.getElem_toArray, List.getElem_cons_succ, List.getElem_cons_zero, List.setIfInBounds_toArray, List.set_cons_zero, List.set_cons_succ])
          refine wpList_skip (by kernel_rfl) ?_
          (try simp only [Act.put, List.getElem_toArray, List.getElem_cons_succ, List.getElem_cons_zero, List.setIfInBounds_toArray, List.set_cons_zero, List.set_cons_succ])
          refine wpList_skip (by kernel_rfl) ?_
          (try simp only [Act.put, List.getElem_toArray, List.getElem_cons_succ, List.getElem_cons_zero, List.setIfInBounds_toArray, List.set_cons_zero, List.set_cons_succ])
          refine wpList_skip (by kernel_rfl) ?_
          (try simp only [Act.put, List.getElem_toArray, List.getElem_cons_succ, List.getElem_cons_zero, List.setIfInBounds_toArray, List.set_cons_zero, List.set_cons_succ])
          refine wpList_skip (by kernel_rfl) ?_
          (try simp only [Act.put, List.getElem_toArray, List.getElem_cons_succ, List.getElem_cons_zero, List.setIfInBounds_toArray, List.set_cons_zero, List.set_cons_succ])
          refine wpList_skip (by kernel_rfl) ?_
          (try simp only [Act.put, List.getElem_toArray, List.getElem_cons_succ, List.getElem_cons_zero, List.setIfInBounds_toArray, List.set_cons_zero, List.set_cons_succ])
          refine wpList_skip (by kernel_rfl) ?_
          (try simp only [Act.put, List.getElem_toArray, List.getElem_cons_succ, List.getElem_cons_zero, List.setIfInBounds_toArray, List.set_cons_zero, List.set_cons_succ])
          refine wpList_skip (by kernel_rfl) ?_
          (try simp only [Act.put, List.getElem_toArray, List.getElem_cons_succ, List.getElem_cons_zero, List.setIfInBounds_toArray, List.set_cons_zero, List.set_cons_succ])
          refine wpList_val (.bool false) (by rfl) (run_pick_no (.tmp 24) (.tmp 32) (.const (.bool false)) _ rfl rfl rfl) ?_
          (try simp only [Act.put, List.getElem_toArray, List.getElem_cons_succ, List.getElem_cons_zero, List.setIfInBounds_toArray, List.set_cons_zero, List.set_cons_succ])
          refine wpList_nil ?_
          go_wp2_with fail
          go_roundw
          case rel => exact ⟨k + 1, by omega, by go_num, by rw [best_no HX.out (by rw [← HF.out, hwb]; rfl)]; rw [← HF.out]; exact K15.out.sub (List.Sublist.cons_cons _ (List.Sublist.cons_cons _ (List.nil_sublist _)))⟩
          case measure => simp [intOf]; omega
      case true =>
        cases F with
        | none =>
          go_upto_region 3 with fail
          refine wp_region_lit ?_
          refine wpList_val (.bool true) (by rfl) (by have q := hlt; go_simp) ?_
          (try simp only [Act.put, List.getElem_toArray, List.getElem_cons_succ, List.getElem_cons_zero, List.setIfInBounds_toArray, List.set_cons_zero, List.set_cons_succ])
          refine wpList_nil ?_
          go_upto_region 4 with fail
          refine wp_region_lit ?_
          refine wpList_val (.int .i64 (k : Nat)) (by rfl) (by go_simp) ?_
          (try simp only [Act.put, List.getElem_toArray, List.getElem_cons_succ, List.getElem_cons_zero, List.setIfInBounds_toArray, List.set_cons_zero, List.set_cons_succ])
          refine wpList_val (.pointer (some ⟨g, k * 8, none⟩)) (by rfl) (by go_simp) ?_
          (try simp only [Act.put, List.getElem_toArray, List.getElem_cons_succ, List.getElem_cons_zero, List.setIfInBounds_toArray, List.set_cons_zero, List.set_cons_succ])
          refine wpList_val (.agg (rpA x)) (by rfl) (run_loadRange 47 _ rfl g (k * 8) rfl (rpA x) _ (R.out _ KR.out.below) Try.underlying47 rfl size47) ?_
          (try simp only [Act.put, List.getElem_toArray, List.getElem_cons_succ, List.getElem_cons_zero, List.setIfInBounds_toArray, List.set_cons_zero, List.set_cons_succ])
          refine kb_alloc KR.out 47 (nil8) rfl z47 (by rfl) ?_
          intro b11 w11 hb11 hk
          have K11 := Lib.hid (show Kb w [(b1, nilW, 83), (b2, firstA none, 83), (b11, nil8, 47)] w11 from hk)
          clear hk hb11
          (try simp only [Act.put, List.getElem_toArray, List.getElem_cons_succ, List.getElem_cons_zero, List.setIfInBounds_toArray, List.set_cons_zero, List.set_cons_succ])
          refine wpList_val (.int .i64 (k : Nat)) (by rfl) (by go_simp) ?_
          (try simp only [Act.put, List.getElem_toArray, List.getElem_cons_succ, List.getElem_cons_zero, List.setIfInBounds_toArray, List.set_cons_zero, List.set_cons_succ])
          refine kb_row K11.out 2 rfl 47 _ _ (rpA x) rfl rfl rfl rfl (size47) (by rfl) (by kernel_rfl) ?_
          intro w12 hk
          have K12 := Lib.hid (show Kb w [(b1, nilW, 83), (b2, firstA none, 83), (b11, rpA x, 47)] w12 from hk)
          clear hk
          (try simp only [Act.put, List.getElem_toArray, List.getElem_cons_succ, List.getElem_cons_zero, List.setIfInBounds_toArray, List.set_cons_zero, List.set_cons_succ])
          refine wpList_nil ?_
          go_upto_region 5 with fail
          refine wp_region_lit ?_
          refine wpList_val (.agg (rpA x)) (by rfl) (kb_all K12.out 2 rfl 47 _ rfl rfl Try.underlying47 rfl (size47)) ?_
          (try simp only [Act.put, List.getElem_toArray, List.getElem_cons_succ, List.getElem_cons_zero, List.setIfInBounds_toArray, List.set_cons_zero, List.set_cons_succ])
          refine wpList_val (.int .u64 (self : Nat)) (by rfl) (by go_simp) ?_
          (try simp only [Act.put, List.getElem_toArray, List.getElem_cons_succ, List.getElem_cons_zero, List.setIfInBounds_toArray, List.set_cons_zero, List.set_cons_succ])
          refine wpList_val (.int .i64 (k : Nat)) (by rfl) (by go_simp) ?_
          (try simp only [Act.put, List.getElem_toArray, List.getElem_cons_succ, List.getElem_cons_zero, List.setIfInBounds_toArray, List.set_cons_zero, List.set_cons_succ])
          refine wpList_val (.int .i64 ((k : Int) + 1)) (by rfl) (by go_simp; exact wrap_i64r (by omega) (by omega)) ?_
          (try simp only [Act.put, List.getElem_toArray, List.getElem_cons_succ, List.getElem_cons_zero, List.setIfInBounds_toArray, List.set_cons_zero, List.set_cons_succ])
          refine kb_call K12.out 30 #[.agg (rpA x), .int .u64 (self : Nat), .int .i64 ((k : Int) + 1)] (.agg (wyA (plusV x.v x.c) x.i ((k : Int) + 1))) (by rfl) (by go_simp) (by have q := way_any self x ((k : Int) + 1) OKX.out w12; rw [show wayA self x ((k : Int) + 1) = wyA (plusV x.v x.c) x.i ((k : Int) + 1) by unfold wayA; rw [hwb]; rfl] at q; exact q) ?_
          intro w13 hk
          have K13 := Lib.hid (show Kb w [(b1, nilW, 83), (b2, firstA none, 83), (b11, rpA x, 47)] w13 from hk)
          clear hk
          (try simp only [Act.put, List.getElem_toArray, List.getElem_cons_succ, List.getElem_cons_zero, List.setIfInBounds_toArray, List.set_cons_zero, List.set_cons_succ])
          refine kb_alloc K13.out 83 (nilW) rfl z83 (by rfl) ?_
          intro b14 w14 hb14 hk
          have K14 := Lib.hid (show Kb w [(b1, nilW, 83), (b2, firstA none, 83), (b11, rpA x, 47), (b14, nilW, 83)] w14 from hk)
          clear hk hb14
          (try simp only [Act.put, List.getElem_toArray, List.getElem_cons_succ, List.getElem_cons_zero, List.setIfInBounds_toArray, List.set_cons_zero, List.set_cons_succ])
          refine kb_row K14.out 3 rfl 83 _ _ (wyA (plusV x.v x.c) x.i ((k : Int) + 1)) rfl rfl rfl rfl (size83) (by rfl) (by kernel_rfl) ?_
          intro w15 hk
          have K15 := Lib.hid (show Kb w [(b1, nilW, 83), (b2, firstA none, 83), (b11, rpA x, 47), (b14, wyA (plusV x.v x.c) x.i ((k : Int) + 1), 83)] w15 from hk)
          clear hk
          (try simp only [Act.put, List.getElem_toArray, List.getElem_cons_succ, List.getElem_cons_zero, List.setIfInBounds_toArray, List.set_cons_zero, List.set_cons_succ])
          refine wpList_nil ?_
          go_upto_region 6 with fail
          refine wp_region_lit ?_
          refine wpList_val (.agg (wyA (plusV x.v x.c) x.i ((k : Int) + 1))) (by rfl) (kb_all K15.out 3 rfl 83 _ rfl rfl Try.underlying83 rfl (size83)) ?_
          (try simp only [Act.put, List.getElem_toArray, List.getElem_cons_succ, List.getElem_cons_zero, List.setIfInBounds_toArray, List.set_cons_zero, List.set_cons_succ])
          refine wpList_val (.agg (nilW)) (by rfl) (run_build_of 83 [] rfl [] nilW rfl (by kernel_rfl)) ?_
          (try simp only [Act.put, List.getElem_toArray, List.getElem_cons_succ, List.getElem_cons_zero, List.setIfInBounds_toArray, List.set_cons_zero, List.set_cons_succ])
          refine wpList_val (.bool true) (by rfl) (by have q := way_some (plusV x.v x.c) x.i ((k : Int) + 1) (by omega); go_simp) ?_
          (try simp only [Act.put, List.getElem_toArray, List.getElem_cons_succ, List.getElem_cons_zero, List.setIfInBounds_toArray, List.set_cons_zero, List.set_cons_succ])
          refine wpList_val (.bool true) (by rfl) (by go_simp) ?_
          (try simp only [Act.put, List.getElem_toArray, List.getElem_cons_succ, List.getElem_cons_zero, List.setIfInBounds_toArray, List.set_cons_zero, List.set_cons_succ])
          refine wpList_val (.agg (firstA none)) (by rfl) (kb_all K15.out 1 rfl 83 _ rfl rfl Try.underlying83 rfl ((by rw [first_size]; exact size83))) ?_
          (try simp only [Act.put, List.getElem_toArray, List.getElem_cons_succ, List.getElem_cons_zero, List.setIfInBounds_toArray, List.set_cons_zero, List.set_cons_succ])
          refine wpList_val (.agg (nilW)) (by rfl) (run_build_of 83 [] rfl [] nilW rfl (by kernel_rfl)) ?_
          (try simp only [Act.put, List.getElem_toArray, List.getElem_cons_succ, List.getElem_cons_zero, List.setIfInBounds_toArray, List.set_cons_zero, List.set_cons_succ])
          refine wpList_val (.bool true) (by rfl) (by have q : ∀ W, (Op.equalIn 10000 83 (.agg (firstA none)) (.agg nilW)).run Try.prog W = .ok true W := way_zero; go_simp) ?_
          (try simp only [Act.put, List.getElem_toArray, List.getElem_cons_succ, List.getElem_cons_zero, List.setIfInBounds_toArray, List.set_cons_zero, List.set_cons_succ])
          refine wpList_val (.bool true) (by rfl) (by go_simp) ?_
          (try simp only [Act.put, List.getElem_toArray, List.getElem_cons_succ, List.getElem_cons_zero, List.setIfInBounds_toArray, List.set_cons_zero, List.set_cons_succ])
          refine wpList_skip (by kernel_rfl) ?_
          (try simp only [Act.put, List.getElem_toArray, List.getElem_cons_succ, List.getElem_cons_zero, List.setIfInBounds_toArray, List.set_cons_zero, List.set_cons_succ])
          refine wpList_skip (by kernel_rfl) ?_
          (try simp only [Act.put, List.getElem_toArray, List.getElem_cons_succ, List.getElem_cons_zero, List.setIfInBounds_toArray, List.set_cons_zero, List.set_cons_succ])
          refine wpList_skip (by kernel_rfl) ?_
          (try simp only [Act.put, List.getElem_toArray, List.getElem_cons_succ, List.getElem_cons_zero, List.setIfInBounds_toArray, List.set_cons_zero, List.set_cons_succ])
          refine wpList_val (.bool true) (by rfl) (run_pick_yes (.tmp 28) (.const (.bool true)) (.tmp 31) _ rfl rfl rfl) ?_
          (try simp only [Act.put, List.getElem_toArray, List.getElem_cons_succ, List.getElem_cons_zero, List.setIfInBounds_toArray, List.set_cons_zero, List.set_cons_succ])
          refine wpList_val (.bool true) (by rfl) (run_pick_yes (.tmp 24) (.tmp 32) (.const (.bool false)) _ rfl rfl rfl) ?_
          (try simp only [Act.put, List.getElem_toArray, List.getElem_cons_succ, List.getElem_cons_zero, List.setIfInBounds_toArray, List.set_cons_zero, List.set_cons_succ])
          refine wpList_nil ?_
          go_upto_region 7 with fail
          refine wp_region_lit ?_
          refine wpList_val (.agg (wyA (plusV x.v x.c) x.i ((k : Int) + 1))) (by rfl) (kb_all K15.out 3 rfl 83 _ rfl rfl Try.underlying83 rfl (size83)) ?_
          (try simp only [Act.put, List.getElem_toArray, List.getElem_cons_succ, List.getElem_cons_zero, List.setIfInBounds_toArray, List.set_cons_zero, List.set_cons_succ])
          refine kb_row K15.out 1 rfl 83 _ _ (wyA (plusV x.v x.c) x.i ((k : Int) + 1)) rfl rfl rfl rfl (size83) (by rfl) (by kernel_rfl) ?_
          intro w16 hk
          have K16 := Lib.hid (show Kb w [(b1, nilW, 83), (b2, wyA (plusV x.v x.c) x.i ((k : Int) + 1), 83), (b11, rpA x, 47), (b14, wyA (plusV x.v x.c) x.i ((k : Int) + 1), 83)] w16 from hk)
          clear hk
          (try simp only [Act.put, List.getElem_toArray, List.getElem_cons_succ, List.getElem_cons_zero, List.setIfInBounds_toArray, List.set_cons_zero, List.set_cons_succ])
          refine wpList_nil ?_
          go_wp2_with fail
          go_roundw
          case rel => exact ⟨k + 1, by omega, by go_num, by rw [best_yes HX.out (by rw [← HF.out, hwb]; rfl)]; exact K16.out.sub (List.Sublist.cons_cons _ (List.Sublist.cons_cons _ (List.nil_sublist _)))⟩
          case measure => simp [intOf]; omega
        | some y =>
          cases hah : aheadB x y.2
          case false =>
            go_upto_region 3 with fail
            refine wp_region_lit ?_
            refine wpList_val (.bool true) (by rfl) (by have q := hlt; go_simp) ?_
            (try simp only [Act.put, List.getElem_toArray, List.getElem_cons_succ, List.getElem_cons_zero, List.setIfInBounds_toArray, List.set_cons_zero, List.set_cons_succ])
            refine wpList_nil ?_
            go_upto_region 4 with fail
            refine wp_region_lit ?_
            refine wpList_val (.int .i64 (k : Nat)) (by rfl) (by go_simp) ?_
            (try simp only [Act.put, List.getElem_toArray, List.getElem_cons_succ, List.getElem_cons_zero, List.setIfInBounds_toArray, List.set_cons_zero, List.set_cons_succ])
            refine wpList_val (.pointer (some ⟨g, k * 8, none⟩)) (by rfl) (by go_simp) ?_
            (try simp only [Act.put, List.getElem_toArray, List.getElem_cons_succ, List.getElem_cons_zero, List.setIfInBounds_toArray, List.set_cons_zero, List.set_cons_succ])
            refine wpList_val (.agg (rpA x)) (by rfl) (run_loadRange 47 _ rfl g (k * 8) rfl (rpA x) _ (R.out _ KR.out.below) Try.underlying47 rfl size47) ?_
            (try simp only [Act.put, List.getElem_toArray, List.getElem_cons_succ, List.getElem_cons_zero, List.setIfInBounds_toArray, List.set_cons_zero, List.set_cons_succ])
            refine kb_alloc KR.out 47 (nil8) rfl z47 (by rfl) ?_
            intro b11 w11 hb11 hk
            have K11 := Lib.hid (show Kb w [(b1, nilW, 83), (b2, firstA (some y), 83), (b11, nil8, 47)] w11 from hk)
            clear hk hb11
            (try simp only [Act.put, List.getElem_toArray, List.getElem_cons_succ, List.getElem_cons_zero, List.setIfInBounds_toArray, List.set_cons_zero, List.set_cons_succ])
            refine wpList_val (.int .i64 (k : Nat)) (by rfl) (by go_simp) ?_
            (try simp only [Act.put, List.getElem_toArray, List.getElem_cons_succ, List.getElem_cons_zero, List.setIfInBounds_toArray, List.set_cons_zero, List.set_cons_succ])
            refine kb_row K11.out 2 rfl 47 _ _ (rpA x) rfl rfl rfl rfl (size47) (by rfl) (by kernel_rfl) ?_
            intro w12 hk
            have K12 := Lib.hid (show Kb w [(b1, nilW, 83), (b2, firstA (some y), 83), (b11, rpA x, 47)] w12 from hk)
            clear hk
            (try simp only [Act.put, List.getElem_toArray, List.getElem_cons_succ, List.getElem_cons_zero, List.setIfInBounds_toArray, List.set_cons_zero, List.set_cons_succ])
            refine wpList_nil ?_
            go_upto_region 5 with fail
            refine wp_region_lit ?_
            refine wpList_val (.agg (rpA x)) (by rfl) (kb_all K12.out 2 rfl 47 _ rfl rfl Try.underlying47 rfl (size47)) ?_
            (try simp only [Act.put, List.getElem_toArray, List.getElem_cons_succ, List.getElem_cons_zero, List.setIfInBounds_toArray, List.set_cons_zero, List.set_cons_succ])
            refine wpList_val (.int .u64 (self : Nat)) (by rfl) (by go_simp) ?_
            (try simp only [Act.put, List.getElem_toArray, List.getElem_cons_succ, List.getElem_cons_zero, List.setIfInBounds_toArray, List.set_cons_zero, List.set_cons_succ])
            refine wpList_val (.int .i64 (k : Nat)) (by rfl) (by go_simp) ?_
            (try simp only [Act.put, List.getElem_toArray, List.getElem_cons_succ, List.getElem_cons_zero, List.setIfInBounds_toArray, List.set_cons_zero, List.set_cons_succ])
            refine wpList_val (.int .i64 ((k : Int) + 1)) (by rfl) (by go_simp; exact wrap_i64r (by omega) (by omega)) ?_
            (try simp only [Act.put, List.getElem_toArray, List.getElem_cons_succ, List.getElem_cons_zero, List.setIfInBounds_toArray, List.set_cons_zero, List.set_cons_succ])
            refine kb_call K12.out 30 #[.agg (rpA x), .int .u64 (self : Nat), .int .i64 ((k : Int) + 1)] (.agg (wyA (plusV x.v x.c) x.i ((k : Int) + 1))) (by rfl) (by go_simp) (by have q := way_any self x ((k : Int) + 1) OKX.out w12; rw [show wayA self x ((k : Int) + 1) = wyA (plusV x.v x.c) x.i ((k : Int) + 1) by unfold wayA; rw [hwb]; rfl] at q; exact q) ?_
            intro w13 hk
            have K13 := Lib.hid (show Kb w [(b1, nilW, 83), (b2, firstA (some y), 83), (b11, rpA x, 47)] w13 from hk)
            clear hk
            (try simp only [Act.put, List.getElem_toArray, List.getElem_cons_succ, List.getElem_cons_zero, List.setIfInBounds_toArray, List.set_cons_zero, List.set_cons_succ])
            refine kb_alloc K13.out 83 (nilW) rfl z83 (by rfl) ?_
            intro b14 w14 hb14 hk
            have K14 := Lib.hid (show Kb w [(b1, nilW, 83), (b2, firstA (some y), 83), (b11, rpA x, 47), (b14, nilW, 83)] w14 from hk)
            clear hk hb14
            (try simp only [Act.put, List.getElem_toArray, List.getElem_cons_succ, List.getElem_cons_zero, List.setIfInBounds_toArray, List.set_cons_zero, List.set_cons_succ])
            refine kb_row K14.out 3 rfl 83 _ _ (wyA (plusV x.v x.c) x.i ((k : Int) + 1)) rfl rfl rfl rfl (size83) (by rfl) (by kernel_rfl) ?_
            intro w15 hk
            have K15 := Lib.hid (show Kb w [(b1, nilW, 83), (b2, firstA (some y), 83), (b11, rpA x, 47), (b14, wyA (plusV x.v x.c) x.i ((k : Int) + 1), 83)] w15 from hk)
            clear hk
            (try simp only [Act.put, List.getElem_toArray, List.getElem_cons_succ, List.getElem_cons_zero, List.setIfInBounds_toArray, List.set_cons_zero, List.set_cons_succ])
            refine wpList_nil ?_
            go_upto_region 6 with fail
            refine wp_region_lit ?_
            refine wpList_val (.agg (wyA (plusV x.v x.c) x.i ((k : Int) + 1))) (by rfl) (kb_all K15.out 3 rfl 83 _ rfl rfl Try.underlying83 rfl (size83)) ?_
            (try simp only [Act.put, List.getElem_toArray, List.getElem_cons_succ, List.getElem_cons_zero, List.setIfInBounds_toArray, List.set_cons_zero, List.set_cons_succ])
            refine wpList_val (.agg (nilW)) (by rfl) (run_build_of 83 [] rfl [] nilW rfl (by kernel_rfl)) ?_
            (try simp only [Act.put, List.getElem_toArray, List.getElem_cons_succ, List.getElem_cons_zero, List.setIfInBounds_toArray, List.set_cons_zero, List.set_cons_succ])
            refine wpList_val (.bool true) (by rfl) (by have q := way_some (plusV x.v x.c) x.i ((k : Int) + 1) (by omega); go_simp) ?_
            (try simp only [Act.put, List.getElem_toArray, List.getElem_cons_succ, List.getElem_cons_zero, List.setIfInBounds_toArray, List.set_cons_zero, List.set_cons_succ])
            refine wpList_val (.bool true) (by rfl) (by go_simp) ?_
            (try simp only [Act.put, List.getElem_toArray, List.getElem_cons_succ, List.getElem_cons_zero, List.setIfInBounds_toArray, List.set_cons_zero, List.set_cons_succ])
            refine wpList_val (.agg (firstA (some y))) (by rfl) (kb_all K15.out 1 rfl 83 _ rfl rfl Try.underlying83 rfl ((by rw [first_size]; exact size83))) ?_
            (try simp only [Act.put, List.getElem_toArray, List.getElem_cons_succ, List.getElem_cons_zero, List.setIfInBounds_toArray, List.set_cons_zero, List.set_cons_succ])
            refine wpList_val (.agg (nilW)) (by rfl) (run_build_of 83 [] rfl [] nilW rfl (by kernel_rfl)) ?_
            (try simp only [Act.put, List.getElem_toArray, List.getElem_cons_succ, List.getElem_cons_zero, List.setIfInBounds_toArray, List.set_cons_zero, List.set_cons_succ])
            refine wpList_val (.bool false) (by rfl) (by have q : ∀ W, (Op.equalIn 10000 83 (.agg (firstA (some y))) (.agg nilW)).run Try.prog W = .ok false W := way_some (plusV y.2.v y.2.c) y.2.i ((y.1 : Int) + 1) (by omega); go_simp) ?_
            (try simp only [Act.put, List.getElem_toArray, List.getElem_cons_succ, List.getElem_cons_zero, List.setIfInBounds_toArray, List.set_cons_zero, List.set_cons_succ])
            refine wpList_val (.bool false) (by rfl) (by go_simp) ?_
            (try simp only [Act.put, List.getElem_toArray, List.getElem_cons_succ, List.getElem_cons_zero, List.setIfInBounds_toArray, List.set_cons_zero, List.set_cons_succ])
            refine wpList_val (.agg (wyA (plusV x.v x.c) x.i ((k : Int) + 1))) (by rfl) (kb_all K15.out 3 rfl 83 _ rfl rfl Try.underlying83 rfl (size83)) ?_
            (try simp only [Act.put, List.getElem_toArray, List.getElem_cons_succ, List.getElem_cons_zero, List.setIfInBounds_toArray, List.set_cons_zero, List.set_cons_succ])
            refine wpList_val (.agg (firstA (some y))) (by rfl) (kb_all K15.out 1 rfl 83 _ rfl rfl Try.underlying83 rfl ((by rw [first_size]; exact size83))) ?_
            (try simp only [Act.put, List.getElem_toArray, List.getElem_cons_succ, List.getElem_cons_zero, List.setIfInBounds_toArray, List.set_cons_zero, List.set_cons_succ])
            refine kb_call K15.out 31 #[.agg (wyA (plusV x.v x.c) x.i ((k : Int) + 1)), .agg (firstA (some y))] (.bool false) (by rfl) (by go_simp) (by have q := waheadW_any (plusV x.v x.c) (plusV y.2.v y.2.c) x.i y.2.i ((k : Int) + 1) ((y.1 : Int) + 1) w15; rw [show (if eqV (plusV x.v x.c) (plusV y.2.v y.2.c) then decide (x.i < y.2.i) else lessV (plusV x.v x.c) (plusV y.2.v y.2.c)) = false from hah] at q; exact q) ?_
            intro w16 hk
            have K16 := Lib.hid (show Kb w [(b1, nilW, 83), (b2, firstA (some y), 83), (b11, rpA x, 47), (b14, wyA (plusV x.v x.c) x.i ((k : Int) + 1), 83)] w16 from hk)
            clear hk
            (try simp only [Act.put, List.getElem_toArray, List.getElem_cons_succ, List.getElem_cons_zero, List.setIfInBounds_toArray, List.set_cons_zero, List.set_cons_succ])
            refine wpList_val (.bool false) (by rfl) (run_pick_no (.tmp 28) (.const (.bool true)) (.tmp 31) _ rfl rfl rfl) ?_
            (try simp only [Act.put, List.getElem_toArray, List.getElem_cons_succ, List.getElem_cons_zero, List.setIfInBounds_toArray, List.set_cons_zero, List.set_cons_succ])
            refine wpList_val (.bool false) (by rfl) (run_pick_yes (.tmp 24) (.tmp 32) (.const (.bool false)) _ rfl rfl rfl) ?_
            (try simp only [Act.put, List.getElem_toArray, List.getElem_cons_succ, List.getElem_cons_zero, List.setIfInBounds_toArray, List.set_cons_zero, List.set_cons_succ])
            refine wpList_nil ?_
            go_wp2_with fail
            go_roundw
            case rel => exact ⟨k + 1, by omega, by go_num, by rw [best_no HX.out (by rw [← HF.out, hwb]; exact hah)]; rw [← HF.out]; exact K16.out.sub (List.Sublist.cons_cons _ (List.Sublist.cons_cons _ (List.nil_sublist _)))⟩
            case measure => simp [intOf]; omega
          case true =>
            go_upto_region 3 with fail
            refine wp_region_lit ?_
            refine wpList_val (.bool true) (by rfl) (by have q := hlt; go_simp) ?_
            (try simp only [Act.put, List.getElem_toArray, List.getElem_cons_succ, List.getElem_cons_zero, List.setIfInBounds_toArray, List.set_cons_zero, List.set_cons_succ])
            refine wpList_nil ?_
            go_upto_region 4 with fail
            refine wp_region_lit ?_
            refine wpList_val (.int .i64 (k : Nat)) (by rfl) (by go_simp) ?_
            (try simp only [Act.put, List.getElem_toArray, List.getElem_cons_succ, List.getElem_cons_zero, List.setIfInBounds_toArray, List.set_cons_zero, List.set_cons_succ])
            refine wpList_val (.pointer (some ⟨g, k * 8, none⟩)) (by rfl) (by go_simp) ?_
            (try simp only [Act.put, List.getElem_toArray, List.getElem_cons_succ, List.getElem_cons_zero, List.setIfInBounds_toArray, List.set_cons_zero, List.set_cons_succ])
            refine wpList_val (.agg (rpA x)) (by rfl) (run_loadRange 47 _ rfl g (k * 8) rfl (rpA x) _ (R.out _ KR.out.below) Try.underlying47 rfl size47) ?_
            (try simp only [Act.put, List.getElem_toArray, List.getElem_cons_succ, List.getElem_cons_zero, List.setIfInBounds_toArray, List.set_cons_zero, List.set_cons_succ])
            refine kb_alloc KR.out 47 (nil8) rfl z47 (by rfl) ?_
            intro b11 w11 hb11 hk
            have K11 := Lib.hid (show Kb w [(b1, nilW, 83), (b2, firstA (some y), 83), (b11, nil8, 47)] w11 from hk)
            clear hk hb11
            (try simp only [Act.put, List.getElem_toArray, List.getElem_cons_succ, List.getElem_cons_zero, List.setIfInBounds_toArray, List.set_cons_zero, List.set_cons_succ])
            refine wpList_val (.int .i64 (k : Nat)) (by rfl) (by go_simp) ?_
            (try simp only [Act.put, List.getElem_toArray, List.getElem_cons_succ, List.getElem_cons_zero, List.setIfInBounds_toArray, List.set_cons_zero, List.set_cons_succ])
            refine kb_row K11.out 2 rfl 47 _ _ (rpA x) rfl rfl rfl rfl (size47) (by rfl) (by kernel_rfl) ?_
            intro w12 hk
            have K12 := Lib.hid (show Kb w [(b1, nilW, 83), (b2, firstA (some y), 83), (b11, rpA x, 47)] w12 from hk)
            clear hk
            (try simp only [Act.put, List.getElem_toArray, List.getElem_cons_succ, List.getElem_cons_zero, List.setIfInBounds_toArray, List.set_cons_zero, List.set_cons_succ])
            refine wpList_nil ?_
            go_upto_region 5 with fail
            refine wp_region_lit ?_
            refine wpList_val (.agg (rpA x)) (by rfl) (kb_all K12.out 2 rfl 47 _ rfl rfl Try.underlying47 rfl (size47)) ?_
            (try simp only [Act.put, List.getElem_toArray, List.getElem_cons_succ, List.getElem_cons_zero, List.setIfInBounds_toArray, List.set_cons_zero, List.set_cons_succ])
            refine wpList_val (.int .u64 (self : Nat)) (by rfl) (by go_simp) ?_
            (try simp only [Act.put, List.getElem_toArray, List.getElem_cons_succ, List.getElem_cons_zero, List.setIfInBounds_toArray, List.set_cons_zero, List.set_cons_succ])
            refine wpList_val (.int .i64 (k : Nat)) (by rfl) (by go_simp) ?_
            (try simp only [Act.put, List.getElem_toArray, List.getElem_cons_succ, List.getElem_cons_zero, List.setIfInBounds_toArray, List.set_cons_zero, List.set_cons_succ])
            refine wpList_val (.int .i64 ((k : Int) + 1)) (by rfl) (by go_simp; exact wrap_i64r (by omega) (by omega)) ?_
            (try simp only [Act.put, List.getElem_toArray, List.getElem_cons_succ, List.getElem_cons_zero, List.setIfInBounds_toArray, List.set_cons_zero, List.set_cons_succ])
            refine kb_call K12.out 30 #[.agg (rpA x), .int .u64 (self : Nat), .int .i64 ((k : Int) + 1)] (.agg (wyA (plusV x.v x.c) x.i ((k : Int) + 1))) (by rfl) (by go_simp) (by have q := way_any self x ((k : Int) + 1) OKX.out w12; rw [show wayA self x ((k : Int) + 1) = wyA (plusV x.v x.c) x.i ((k : Int) + 1) by unfold wayA; rw [hwb]; rfl] at q; exact q) ?_
            intro w13 hk
            have K13 := Lib.hid (show Kb w [(b1, nilW, 83), (b2, firstA (some y), 83), (b11, rpA x, 47)] w13 from hk)
            clear hk
            (try simp only [Act.put, List.getElem_toArray, List.getElem_cons_succ, List.getElem_cons_zero, List.setIfInBounds_toArray, List.set_cons_zero, List.set_cons_succ])
            refine kb_alloc K13.out 83 (nilW) rfl z83 (by rfl) ?_
            intro b14 w14 hb14 hk
            have K14 := Lib.hid (show Kb w [(b1, nilW, 83), (b2, firstA (some y), 83), (b11, rpA x, 47), (b14, nilW, 83)] w14 from hk)
            clear hk hb14
            (try simp only [Act.put, List.getElem_toArray, List.getElem_cons_succ, List.getElem_cons_zero, List.setIfInBounds_toArray, List.set_cons_zero, List.set_cons_succ])
            refine kb_row K14.out 3 rfl 83 _ _ (wyA (plusV x.v x.c) x.i ((k : Int) + 1)) rfl rfl rfl rfl (size83) (by rfl) (by kernel_rfl) ?_
            intro w15 hk
            have K15 := Lib.hid (show Kb w [(b1, nilW, 83), (b2, firstA (some y), 83), (b11, rpA x, 47), (b14, wyA (plusV x.v x.c) x.i ((k : Int) + 1), 83)] w15 from hk)
            clear hk
            (try simp only [Act.put, List.getElem_toArray, List.getElem_cons_succ, List.getElem_cons_zero, List.setIfInBounds_toArray, List.set_cons_zero, List.set_cons_succ])
            refine wpList_nil ?_
            go_upto_region 6 with fail
            refine wp_region_lit ?_
            refine wpList_val (.agg (wyA (plusV x.v x.c) x.i ((k : Int) + 1))) (by rfl) (kb_all K15.out 3 rfl 83 _ rfl rfl Try.underlying83 rfl (size83)) ?_
            (try simp only [Act.put, List.getElem_toArray, List.getElem_cons_succ, List.getElem_cons_zero, List.setIfInBounds_toArray, List.set_cons_zero, List.set_cons_succ])
            refine wpList_val (.agg (nilW)) (by rfl) (run_build_of 83 [] rfl [] nilW rfl (by kernel_rfl)) ?_
            (try simp only [Act.put, List.getElem_toArray, List.getElem_cons_succ, List.getElem_cons_zero, List.setIfInBounds_toArray, List.set_cons_zero, List.set_cons_succ])
            refine wpList_val (.bool true) (by rfl) (by have q := way_some (plusV x.v x.c) x.i ((k : Int) + 1) (by omega); go_simp) ?_
            (try simp only [Act.put, List.getElem_toArray, List.getElem_cons_succ, List.getElem_cons_zero, List.setIfInBounds_toArray, List.set_cons_zero, List.set_cons_succ])
            refine wpList_val (.bool true) (by rfl) (by go_simp) ?_
            (try simp only [Act.put, List.getElem_toArray, List.getElem_cons_succ, List.getElem_cons_zero, List.setIfInBounds_toArray, List.set_cons_zero, List.set_cons_succ])
            refine wpList_val (.agg (firstA (some y))) (by rfl) (kb_all K15.out 1 rfl 83 _ rfl rfl Try.underlying83 rfl ((by rw [first_size]; exact size83))) ?_
            (try simp only [Act.put, List.getElem_toArray, List.getElem_cons_succ, List.getElem_cons_zero, List.setIfInBounds_toArray, List.set_cons_zero, List.set_cons_succ])
            refine wpList_val (.agg (nilW)) (by rfl) (run_build_of 83 [] rfl [] nilW rfl (by kernel_rfl)) ?_
            (try simp only [Act.put, List.getElem_toArray, List.getElem_cons_succ, List.getElem_cons_zero, List.setIfInBounds_toArray, List.set_cons_zero, List.set_cons_succ])
            refine wpList_val (.bool false) (by rfl) (by have q : ∀ W, (Op.equalIn 10000 83 (.agg (firstA (some y))) (.agg nilW)).run Try.prog W = .ok false W := way_some (plusV y.2.v y.2.c) y.2.i ((y.1 : Int) + 1) (by omega); go_simp) ?_
            (try simp only [Act.put, List.getElem_toArray, List.getElem_cons_succ, List.getElem_cons_zero, List.setIfInBounds_toArray, List.set_cons_zero, List.set_cons_succ])
            refine wpList_val (.bool false) (by rfl) (by go_simp) ?_
            (try simp only [Act.put, List.getElem_toArray, List.getElem_cons_succ, List.getElem_cons_zero, List.setIfInBounds_toArray, List.set_cons_zero, List.set_cons_succ])
            refine wpList_val (.agg (wyA (plusV x.v x.c) x.i ((k : Int) + 1))) (by rfl) (kb_all K15.out 3 rfl 83 _ rfl rfl Try.underlying83 rfl (size83)) ?_
            (try simp only [Act.put, List.getElem_toArray, List.getElem_cons_succ, List.getElem_cons_zero, List.setIfInBounds_toArray, List.set_cons_zero, List.set_cons_succ])
            refine wpList_val (.agg (firstA (some y))) (by rfl) (kb_all K15.out 1 rfl 83 _ rfl rfl Try.underlying83 rfl ((by rw [first_size]; exact size83))) ?_
            (try simp only [Act.put, List.getElem_toArray, List.getElem_cons_succ, List.getElem_cons_zero, List.setIfInBounds_toArray, List.set_cons_zero, List.set_cons_succ])
            refine kb_call K15.out 31 #[.agg (wyA (plusV x.v x.c) x.i ((k : Int) + 1)), .agg (firstA (some y))] (.bool true) (by rfl) (by go_simp) (by have q := waheadW_any (plusV x.v x.c) (plusV y.2.v y.2.c) x.i y.2.i ((k : Int) + 1) ((y.1 : Int) + 1) w15; rw [show (if eqV (plusV x.v x.c) (plusV y.2.v y.2.c) then decide (x.i < y.2.i) else lessV (plusV x.v x.c) (plusV y.2.v y.2.c)) = true from hah] at q; exact q) ?_
            intro w16 hk
            have K16 := Lib.hid (show Kb w [(b1, nilW, 83), (b2, firstA (some y), 83), (b11, rpA x, 47), (b14, wyA (plusV x.v x.c) x.i ((k : Int) + 1), 83)] w16 from hk)
            clear hk
            (try simp only [Act.put, List.getElem_toArray, List.getElem_cons_succ, List.getElem_cons_zero, List.setIfInBounds_toArray, List.set_cons_zero, List.set_cons_succ])
            refine wpList_val (.bool true) (by rfl) (run_pick_no (.tmp 28) (.const (.bool true)) (.tmp 31) _ rfl rfl rfl) ?_
            (try simp only [Act.put, List.getElem_toArray, List.getElem_cons_succ, List.getElem_cons_zero, List.setIfInBounds_toArray, List.set_cons_zero, List.set_cons_succ])
            refine wpList_val (.bool true) (by rfl) (run_pick_yes (.tmp 24) (.tmp 32) (.const (.bool false)) _ rfl rfl rfl) ?_
            (try simp only [Act.put, List.getElem_toArray, List.getElem_cons_succ, List.getElem_cons_zero, List.setIfInBounds_toArray, List.set_cons_zero, List.set_cons_succ])
            refine wpList_nil ?_
            go_upto_region 7 with fail
            refine wp_region_lit ?_
            refine wpList_val (.agg (wyA (plusV x.v x.c) x.i ((k : Int) + 1))) (by rfl) (kb_all K16.out 3 rfl 83 _ rfl rfl Try.underlying83 rfl (size83)) ?_
            (try simp only [Act.put, List.getElem_toArray, List.getElem_cons_succ, List.getElem_cons_zero, List.setIfInBounds_toArray, List.set_cons_zero, List.set_cons_succ])
            refine kb_row K16.out 1 rfl 83 _ _ (wyA (plusV x.v x.c) x.i ((k : Int) + 1)) rfl rfl rfl rfl (size83) (by rfl) (by kernel_rfl) ?_
            intro w17 hk
            have K17 := Lib.hid (show Kb w [(b1, nilW, 83), (b2, wyA (plusV x.v x.c) x.i ((k : Int) + 1), 83), (b11, rpA x, 47), (b14, wyA (plusV x.v x.c) x.i ((k : Int) + 1), 83)] w17 from hk)
            clear hk
            (try simp only [Act.put, List.getElem_toArray, List.getElem_cons_succ, List.getElem_cons_zero, List.setIfInBounds_toArray, List.set_cons_zero, List.set_cons_succ])
            refine wpList_nil ?_
            go_wp2_with fail
            go_roundw
            case rel => exact ⟨k + 1, by omega, by go_num, by rw [best_yes HX.out (by rw [← HF.out, hwb]; exact hah)]; exact K17.out.sub (List.Sublist.cons_cons _ (List.Sublist.cons_cons _ (List.nil_sublist _)))⟩
            case measure => simp [intOf]; omega
end Go.Proofs.Ytojijeaofkndpaa
