/- LinkFull walked. -/
import Derived.Test.YtiophmmcennjnaaLk4
namespace Go.Proofs.Ytiophmmcennjnaa
open Go.RowKit
attribute [local irreducible] wpQuiet wpList
set_option linter.unusedSimpArgs false
set_option linter.unusedVariables false

attribute [local irreducible] many
theorem wl_call {P : Program} {ops : Array Oper} {Q : Exit → Act → World → Prop} {a : Act} {w : World} {rest : List Oper} {o : Oper} {R : Value → World → Prop} (f : FuncId) (args : Array Value) (hw : Region.wanted o (yielded ops a.tmps) = true) (hv : (execOp a.eval o).run P w = .ok (.enter f args) w)
    (hc : Calls P f args w fun e w' => ∃ v, e = .returned v ∧ R v w') (h : ∀ v w', R v w' → wpList P ops Q rest (a.put o.dst v) w') : wpList P ops Q (o :: rest) a w :=
  BigFrame.wpList_want hw fun K' hK => by
    unfold Oper.wp
    simp only [hv, Oper.upon]
    exact hc.mono fun e w' ⟨v, he, hr⟩ => by subst he; exact hK _ _ (h v w' hr)
theorem wrap_n (x : Int) (h : 0 ≤ x) (h2 : x ≤ 65535) : IntKind.i64.wrap x = x := by
  unfold IntKind.wrap
  simp [IntKind.bits, IntKind.signed]
  omega
theorem calls_one {P : Program} {f : FuncId} {args : Array Value} {w : World} {v : Value} {R : World → Prop} (h : Calls P f args w fun e w' => e = .returned v ∧ R w') : Calls P f args w fun e w' => ∃ u, e = .returned u ∧ (u = v ∧ R w') := h.mono fun e w' ⟨h1, h2⟩ => ⟨v, h1, rfl, h2⟩
set_option maxRecDepth 100000 in
set_option maxHeartbeats 8000000 in
theorem full_walk (n : Nat) (en : Bool) (w : World) (hn : n < 65536) : Calls Try.prog 4 #[.int .u16 (n : Nat), .bool en] w fun e w' => e = .returned (.bool true) ∧ Below w.heap.size w w' := by
  obtain ⟨cn, hcn⟩ : ∃ cn, cn = n % 1200 := ⟨_, rfl⟩
  have HCN := Lib.hid hcn
  have i0 : (cn : Int) < 1200 := by omega
  have i9 : (n : Int) < 65536 := by omega
  obtain ⟨M, hM⟩ : ∃ M, M = 1000 := ⟨_, rfl⟩
  have HM := Lib.hid hM
  obtain ⟨mn, hmn⟩ : ∃ mn, mn = min cn M := ⟨_, rfl⟩
  have HMN := Lib.hid hmn
  have j1 : (mn : Int) ≤ 1000 := by omega
  clear hcn hmn hn hM
  cases en
  case false =>
    go_enter Try.func4, Try.ntmps4
    go_upto_region 3 with (go_at_call 5; refine (speaks_any w).mono ?_; rintro y w1 ⟨rfl, hb⟩)
    have HB := Lib.hid hb
    clear hb
    go_upto_region 7 with (go_at_call 6; refine (lw_new w1).mono ?_; rintro y w2 ⟨g, rfl, hL⟩)
    have H0 := Lib.hid hL
    clear hL
    refine wp_region_lit ?_
    refine wv (.int .u16 (n : Nat)) ?_; (try simp only [Act.put, gA, gS, gZ, sA, sZ, sS])
    refine wv (.int .i64 (n : Nat)) ?_ (hrun := by go_simp; exact wrap_n _ (by omega) (by omega)); (try simp only [Act.put, gA, gS, gZ, sA, sZ, sS])
    refine wv (.int .i64 (cn : Nat)) ?_ (hrun := by have q := HCN.out; go_simp; rw [Int.tmod_eq_emod_of_nonneg (by omega)]; (try omega)); (try simp only [Act.put, gA, gS, gZ, sA, sZ, sS])
    refine wv (.int .i64 (cn : Nat)) ?_; (try simp only [Act.put, gA, gS, gZ, sA, sZ, sS])
    refine wpList_nil ?_
    go_upto_region 9 with fail
    go_loopw [8] (fun v wr => ∃ k : Nat, k ≤ cn ∧ v = .int .i64 (k : Nat) ∧ Lw w1 wr g true (many ⟨#[97]⟩ (min k M)) []) (fun v _ => cn - (intOf v).toNat)
    case atStart => exact ⟨0, Nat.zero_le _, rfl, by rw [Nat.zero_min, many_none]; exact H0.out⟩
    case round =>
      obtain ⟨k, hk, rfl, hK⟩ := hrel
      have HK := Lib.hid hK
      clear hK
      have HLE := Lib.hid hk
      have i4 : (0 : Int) ≤ (k : Int) := by omega
      have i5 : (k : Int) < 2000 := by omega
      by_cases c0 : k < cn
      · have c1 : (k : Int) < (cn : Int) := by omega
        have HC0 := Lib.hid c0
        clear c0 hk
        by_cases c2 : k < 1000
        · have c3 : (k : Int) < 1000 := by omega
          have HC2 := Lib.hid c2
          clear c2
          have e1 : min k M = k := Nat.min_eq_left (by have := HC2.out; have := HM.out; omega)
          rw [e1] at HK
          clear e1
          go_wp2_with (go_at_call 10; refine (lw_send0 HK.out ⟨#[97]⟩ (by rw [many_len]; exact HC2.out)).mono ?_; rintro y w5 ⟨rfl, hL⟩)
          go_roundw
          case measure => have := HC0.out; simp only [intOf]; omega
          case rel => exact ⟨k + 1, HC0.out, by go_simp, by have q := HC2.out; have q2 := HM.out; rw [Nat.min_eq_left (by omega), ← many_one]; exact hL⟩
        · have c3 : decide ((k : Int) < 1000) = false := decide_eq_false (by omega)
          have HC2 := Lib.hid c2
          clear c2
          have e1 : min k M = M := Nat.min_eq_right (by have := HC2.out; have := HM.out; omega)
          rw [e1] at HK
          clear e1
          have GO := Lib.hid (show goes 0 true (many ⟨#[97]⟩ M) [] = false by have q := HM.out; simp [goes, unN, many_len, q])
          go_wp2_with (go_at_call 10; refine (lw_sendno HK.out 0 ⟨#[97]⟩ GO.out).mono ?_; rintro y w5 ⟨rfl, rfl⟩)
          go_roundw
          case measure => have := HC0.out; simp only [intOf]; omega
          case rel => exact ⟨k + 1, HC0.out, by go_simp, by have q := HC2.out; have q2 := HM.out; rw [Nat.min_eq_right (by omega)]; exact HK.out⟩
      · have c1 : ¬ ((k : Int) < (cn : Int)) := by omega
        obtain rfl : k = cn := by omega
        clear c0 hk
        rw [← HMN.out] at HK
        go_upto_region 13 with fail
        refine wp_region_lit ?_
        refine wv (.pointer (some ⟨g, 0, none⟩)) ?_; (try simp only [Act.put, gA, gS, gZ, sA, sZ, sS])
        refine wv (.int .i64 0) ?_; (try simp only [Act.put, gA, gS, gZ, sA, sZ, sS])
        refine wl_call 12 #[.pointer (some ⟨g, 0, none⟩), .int .i64 0] (by rfl) (by go_simp) (calls_one (lw_has HK.out 0)) ?_; rintro v w6 ⟨rfl, rfl⟩; (try simp only [Act.put, gA, gS, gZ, sA, sZ, sS])
        rw [show unN 0 (many ⟨#[97]⟩ mn) [] = mn from many_len _ _]
        refine wv (.int .i64 (k : Nat)) ?_; (try simp only [Act.put, gA, gS, gZ, sA, sZ, sS])
        refine wv (.int .i64 (mn : Nat)) ?_ (hrun := by have q := HMN.out; have q2 := HLE.out; have q3 := HM.out; go_simp; try omega); (try simp only [Act.put, gA, gS, gZ, sA, sZ, sS])
        refine wv (.bool false) ?_; (try simp only [Act.put, gA, gS, gZ, sA, sZ, sS])
        refine wv (.bool false) ?_; (try simp only [Act.put, gA, gS, gZ, sA, sZ, sS])
        refine wv (.pointer (some ⟨g, 0, none⟩)) ?_; (try simp only [Act.put, gA, gS, gZ, sA, sZ, sS])
        refine wv (.int .i64 0) ?_; (try simp only [Act.put, gA, gS, gZ, sA, sZ, sS])
        refine wv (.int .i64 1) ?_ (hrun := by go_simp <;> rfl); (try simp only [Act.put, gA, gS, gZ, sA, sZ, sS])
        refine wl_call 12 #[.pointer (some ⟨g, 0, none⟩), .int .i64 1] (by rfl) (by go_simp) (calls_one (lw_has HK.out 1)) ?_; rintro v w6 ⟨rfl, rfl⟩; (try simp only [Act.put, gA, gS, gZ, sA, sZ, sS])
        rw [show unN 1 (many ⟨#[97]⟩ mn) [] = 0 from rfl]
        refine wv (.bool false) ?_; (try simp only [Act.put, gA, gS, gZ, sA, sZ, sS])
        refine wv (.bool false) ?_; (try simp only [Act.put, gA, gS, gZ, sA, sZ, sS])
        refine wv (.bool false) ?_; (try simp only [Act.put, gA, gS, gZ, sA, sZ, sS])
        refine wv (.pointer (some ⟨g, 0, none⟩)) ?_; (try simp only [Act.put, gA, gS, gZ, sA, sZ, sS])
        refine wv (.int .i64 0) ?_; (try simp only [Act.put, gA, gS, gZ, sA, sZ, sS])
        refine wv (.int .i64 1) ?_ (hrun := by go_simp <;> rfl); (try simp only [Act.put, gA, gS, gZ, sA, sZ, sS])
        refine wl_call 10 #[.pointer (some ⟨g, 0, none⟩), .int .i64 1, .string ⟨#[98]⟩] (by rfl) (by go_simp) (calls_one (lw_send1 HK.out ⟨#[98]⟩ (by simp))) ?_; rintro v w6 ⟨rfl, hL⟩; (try simp only [Act.put, gA, gS, gZ, sA, sZ, sS])
        have H6 := Lib.hid hL
        clear hL
        refine wv (.bool false) ?_; (try simp only [Act.put, gA, gS, gZ, sA, sZ, sS])
        refine wv (.bool false) ?_; (try simp only [Act.put, gA, gS, gZ, sA, sZ, sS])
        refine wpList_nil ?_
        go_upto_region 16 with (go_at_call 9; refine (lw_cut H6.out false).mono ?_; rintro y w7 ⟨rfl, hL⟩)
        have H7 := Lib.hid (show Lw w1 w7 g false [] [] from hL)
        clear hL
        refine wp_region_lit ?_
        refine wv (.pointer (some ⟨g, 0, none⟩)) ?_; (try simp only [Act.put, gA, gS, gZ, sA, sZ, sS])
        refine wv (.int .i64 0) ?_; (try simp only [Act.put, gA, gS, gZ, sA, sZ, sS])
        refine wl_call 12 #[.pointer (some ⟨g, 0, none⟩), .int .i64 0] (by rfl) (by go_simp) (calls_one (lw_has H7.out 0)) ?_; rintro v w6 ⟨rfl, rfl⟩; (try simp only [Act.put, gA, gS, gZ, sA, sZ, sS])
        rw [show unN 0 [] [] = 0 from rfl]
        refine wv (.bool true) ?_; (try simp only [Act.put, gA, gS, gZ, sA, sZ, sS])
        refine wv (.bool true) ?_; (try simp only [Act.put, gA, gS, gZ, sA, sZ, sS])
        refine wv (.pointer (some ⟨g, 0, none⟩)) ?_; (try simp only [Act.put, gA, gS, gZ, sA, sZ, sS])
        refine wv (.int .i64 0) ?_; (try simp only [Act.put, gA, gS, gZ, sA, sZ, sS])
        refine wv (.int .i64 1) ?_ (hrun := by go_simp <;> rfl); (try simp only [Act.put, gA, gS, gZ, sA, sZ, sS])
        refine wl_call 12 #[.pointer (some ⟨g, 0, none⟩), .int .i64 1] (by rfl) (by go_simp) (calls_one (lw_has H7.out 1)) ?_; rintro v w6 ⟨rfl, rfl⟩; (try simp only [Act.put, gA, gS, gZ, sA, sZ, sS])
        rw [show unN 1 [] [] = 0 from rfl]
        refine wv (.bool true) ?_; (try simp only [Act.put, gA, gS, gZ, sA, sZ, sS])
        refine wv (.bool true) ?_; (try simp only [Act.put, gA, gS, gZ, sA, sZ, sS])
        refine wv (.bool true) ?_; (try simp only [Act.put, gA, gS, gZ, sA, sZ, sS])
        refine wv (.pointer (some ⟨g, 0, none⟩)) ?_; (try simp only [Act.put, gA, gS, gZ, sA, sZ, sS])
        refine wv (.int .i64 0) ?_; (try simp only [Act.put, gA, gS, gZ, sA, sZ, sS])
        refine wl_call 10 #[.pointer (some ⟨g, 0, none⟩), .int .i64 0, .string ⟨#[99]⟩] (by rfl) (by go_simp) (calls_one (lw_sendno H7.out 0 ⟨#[99]⟩ rfl)) ?_; rintro v w6 ⟨rfl, rfl⟩; (try simp only [Act.put, gA, gS, gZ, sA, sZ, sS])
        refine wv (.bool true) ?_; (try simp only [Act.put, gA, gS, gZ, sA, sZ, sS])
        refine wv (.bool true) ?_; (try simp only [Act.put, gA, gS, gZ, sA, sZ, sS])
        refine wv (.bool true) ?_; (try simp only [Act.put, gA, gS, gZ, sA, sZ, sS])
        refine wpList_nil ?_
        go_wp2_with fail
        go_ret
        exact ⟨rfl, HB.out.trans (H7.out.below.mono HB.out.size)⟩
  case true =>
    go_enter Try.func4, Try.ntmps4
    go_upto_region 3 with (go_at_call 5; refine (speaks_any w).mono ?_; rintro y w1 ⟨rfl, hb⟩)
    have HB := Lib.hid hb
    clear hb
    go_upto_region 7 with (go_at_call 6; refine (lw_new w1).mono ?_; rintro y w2 ⟨g, rfl, hL⟩)
    have H0 := Lib.hid hL
    clear hL
    refine wp_region_lit ?_
    refine wv (.int .u16 (n : Nat)) ?_; (try simp only [Act.put, gA, gS, gZ, sA, sZ, sS])
    refine wv (.int .i64 (n : Nat)) ?_ (hrun := by go_simp; exact wrap_n _ (by omega) (by omega)); (try simp only [Act.put, gA, gS, gZ, sA, sZ, sS])
    refine wv (.int .i64 (cn : Nat)) ?_ (hrun := by have q := HCN.out; go_simp; rw [Int.tmod_eq_emod_of_nonneg (by omega)]; (try omega)); (try simp only [Act.put, gA, gS, gZ, sA, sZ, sS])
    refine wv (.int .i64 (cn : Nat)) ?_; (try simp only [Act.put, gA, gS, gZ, sA, sZ, sS])
    refine wpList_nil ?_
    go_upto_region 9 with fail
    go_loopw [8] (fun v wr => ∃ k : Nat, k ≤ cn ∧ v = .int .i64 (k : Nat) ∧ Lw w1 wr g true [] (many ⟨#[97]⟩ (min k M))) (fun v _ => cn - (intOf v).toNat)
    case atStart => exact ⟨0, Nat.zero_le _, rfl, by rw [Nat.zero_min, many_none]; exact H0.out⟩
    case round =>
      obtain ⟨k, hk, rfl, hK⟩ := hrel
      have HK := Lib.hid hK
      clear hK
      have HLE := Lib.hid hk
      have i4 : (0 : Int) ≤ (k : Int) := by omega
      have i5 : (k : Int) < 2000 := by omega
      by_cases c0 : k < cn
      · have c1 : (k : Int) < (cn : Int) := by omega
        have HC0 := Lib.hid c0
        clear c0 hk
        by_cases c2 : k < 1000
        · have c3 : (k : Int) < 1000 := by omega
          have HC2 := Lib.hid c2
          clear c2
          have e1 : min k M = k := Nat.min_eq_left (by have := HC2.out; have := HM.out; omega)
          rw [e1] at HK
          clear e1
          go_wp2_with (go_at_call 10; refine (lw_send1 HK.out ⟨#[97]⟩ (by rw [many_len]; exact HC2.out)).mono ?_; rintro y w5 ⟨rfl, hL⟩)
          go_roundw
          case measure => have := HC0.out; simp only [intOf]; omega
          case rel => exact ⟨k + 1, HC0.out, by go_simp, by have q := HC2.out; have q2 := HM.out; rw [Nat.min_eq_left (by omega), ← many_one]; exact hL⟩
        · have c3 : decide ((k : Int) < 1000) = false := decide_eq_false (by omega)
          have HC2 := Lib.hid c2
          clear c2
          have e1 : min k M = M := Nat.min_eq_right (by have := HC2.out; have := HM.out; omega)
          rw [e1] at HK
          clear e1
          have GO := Lib.hid (show goes 1 true [] (many ⟨#[97]⟩ M) = false by have q := HM.out; simp [goes, unN, many_len, q])
          go_wp2_with (go_at_call 10; refine (lw_sendno HK.out 1 ⟨#[97]⟩ GO.out).mono ?_; rintro y w5 ⟨rfl, rfl⟩)
          go_roundw
          case measure => have := HC0.out; simp only [intOf]; omega
          case rel => exact ⟨k + 1, HC0.out, by go_simp, by have q := HC2.out; have q2 := HM.out; rw [Nat.min_eq_right (by omega)]; exact HK.out⟩
      · have c1 : ¬ ((k : Int) < (cn : Int)) := by omega
        obtain rfl : k = cn := by omega
        clear c0 hk
        rw [← HMN.out] at HK
        go_upto_region 13 with fail
        refine wp_region_lit ?_
        refine wv (.pointer (some ⟨g, 0, none⟩)) ?_; (try simp only [Act.put, gA, gS, gZ, sA, sZ, sS])
        refine wv (.int .i64 1) ?_; (try simp only [Act.put, gA, gS, gZ, sA, sZ, sS])
        refine wl_call 12 #[.pointer (some ⟨g, 0, none⟩), .int .i64 1] (by rfl) (by go_simp) (calls_one (lw_has HK.out 1)) ?_; rintro v w6 ⟨rfl, rfl⟩; (try simp only [Act.put, gA, gS, gZ, sA, sZ, sS])
        rw [show unN 1 [] (many ⟨#[97]⟩ mn) = mn from many_len _ _]
        refine wv (.int .i64 (k : Nat)) ?_; (try simp only [Act.put, gA, gS, gZ, sA, sZ, sS])
        refine wv (.int .i64 (mn : Nat)) ?_ (hrun := by have q := HMN.out; have q2 := HLE.out; have q3 := HM.out; go_simp; try omega); (try simp only [Act.put, gA, gS, gZ, sA, sZ, sS])
        refine wv (.bool false) ?_; (try simp only [Act.put, gA, gS, gZ, sA, sZ, sS])
        refine wv (.bool false) ?_; (try simp only [Act.put, gA, gS, gZ, sA, sZ, sS])
        refine wv (.pointer (some ⟨g, 0, none⟩)) ?_; (try simp only [Act.put, gA, gS, gZ, sA, sZ, sS])
        refine wv (.int .i64 1) ?_; (try simp only [Act.put, gA, gS, gZ, sA, sZ, sS])
        refine wv (.int .i64 0) ?_ (hrun := by go_simp <;> rfl); (try simp only [Act.put, gA, gS, gZ, sA, sZ, sS])
        refine wl_call 12 #[.pointer (some ⟨g, 0, none⟩), .int .i64 0] (by rfl) (by go_simp) (calls_one (lw_has HK.out 0)) ?_; rintro v w6 ⟨rfl, rfl⟩; (try simp only [Act.put, gA, gS, gZ, sA, sZ, sS])
        rw [show unN 0 [] (many ⟨#[97]⟩ mn) = 0 from rfl]
        refine wv (.bool false) ?_; (try simp only [Act.put, gA, gS, gZ, sA, sZ, sS])
        refine wv (.bool false) ?_; (try simp only [Act.put, gA, gS, gZ, sA, sZ, sS])
        refine wv (.bool false) ?_; (try simp only [Act.put, gA, gS, gZ, sA, sZ, sS])
        refine wv (.pointer (some ⟨g, 0, none⟩)) ?_; (try simp only [Act.put, gA, gS, gZ, sA, sZ, sS])
        refine wv (.int .i64 1) ?_; (try simp only [Act.put, gA, gS, gZ, sA, sZ, sS])
        refine wv (.int .i64 0) ?_ (hrun := by go_simp <;> rfl); (try simp only [Act.put, gA, gS, gZ, sA, sZ, sS])
        refine wl_call 10 #[.pointer (some ⟨g, 0, none⟩), .int .i64 0, .string ⟨#[98]⟩] (by rfl) (by go_simp) (calls_one (lw_send0 HK.out ⟨#[98]⟩ (by simp))) ?_; rintro v w6 ⟨rfl, hL⟩; (try simp only [Act.put, gA, gS, gZ, sA, sZ, sS])
        have H6 := Lib.hid hL
        clear hL
        refine wv (.bool false) ?_; (try simp only [Act.put, gA, gS, gZ, sA, sZ, sS])
        refine wv (.bool false) ?_; (try simp only [Act.put, gA, gS, gZ, sA, sZ, sS])
        refine wpList_nil ?_
        go_upto_region 16 with (go_at_call 9; refine (lw_cut H6.out false).mono ?_; rintro y w7 ⟨rfl, hL⟩)
        have H7 := Lib.hid (show Lw w1 w7 g false [] [] from hL)
        clear hL
        refine wp_region_lit ?_
        refine wv (.pointer (some ⟨g, 0, none⟩)) ?_; (try simp only [Act.put, gA, gS, gZ, sA, sZ, sS])
        refine wv (.int .i64 1) ?_; (try simp only [Act.put, gA, gS, gZ, sA, sZ, sS])
        refine wl_call 12 #[.pointer (some ⟨g, 0, none⟩), .int .i64 1] (by rfl) (by go_simp) (calls_one (lw_has H7.out 1)) ?_; rintro v w6 ⟨rfl, rfl⟩; (try simp only [Act.put, gA, gS, gZ, sA, sZ, sS])
        rw [show unN 1 [] [] = 0 from rfl]
        refine wv (.bool true) ?_; (try simp only [Act.put, gA, gS, gZ, sA, sZ, sS])
        refine wv (.bool true) ?_; (try simp only [Act.put, gA, gS, gZ, sA, sZ, sS])
        refine wv (.pointer (some ⟨g, 0, none⟩)) ?_; (try simp only [Act.put, gA, gS, gZ, sA, sZ, sS])
        refine wv (.int .i64 1) ?_; (try simp only [Act.put, gA, gS, gZ, sA, sZ, sS])
        refine wv (.int .i64 0) ?_ (hrun := by go_simp <;> rfl); (try simp only [Act.put, gA, gS, gZ, sA, sZ, sS])
        refine wl_call 12 #[.pointer (some ⟨g, 0, none⟩), .int .i64 0] (by rfl) (by go_simp) (calls_one (lw_has H7.out 0)) ?_; rintro v w6 ⟨rfl, rfl⟩; (try simp only [Act.put, gA, gS, gZ, sA, sZ, sS])
        rw [show unN 0 [] [] = 0 from rfl]
        refine wv (.bool true) ?_; (try simp only [Act.put, gA, gS, gZ, sA, sZ, sS])
        refine wv (.bool true) ?_; (try simp only [Act.put, gA, gS, gZ, sA, sZ, sS])
        refine wv (.bool true) ?_; (try simp only [Act.put, gA, gS, gZ, sA, sZ, sS])
        refine wv (.pointer (some ⟨g, 0, none⟩)) ?_; (try simp only [Act.put, gA, gS, gZ, sA, sZ, sS])
        refine wv (.int .i64 1) ?_; (try simp only [Act.put, gA, gS, gZ, sA, sZ, sS])
        refine wl_call 10 #[.pointer (some ⟨g, 0, none⟩), .int .i64 1, .string ⟨#[99]⟩] (by rfl) (by go_simp) (calls_one (lw_sendno H7.out 1 ⟨#[99]⟩ rfl)) ?_; rintro v w6 ⟨rfl, rfl⟩; (try simp only [Act.put, gA, gS, gZ, sA, sZ, sS])
        refine wv (.bool true) ?_; (try simp only [Act.put, gA, gS, gZ, sA, sZ, sS])
        refine wv (.bool true) ?_; (try simp only [Act.put, gA, gS, gZ, sA, sZ, sS])
        refine wv (.bool true) ?_; (try simp only [Act.put, gA, gS, gZ, sA, sZ, sS])
        refine wpList_nil ?_
        go_wp2_with fail
        go_ret
        exact ⟨rfl, HB.out.trans (H7.out.below.mono HB.out.size)⟩
end Go.Proofs.Ytiophmmcennjnaa
