/- Add: a count is more. -/
import Derived.Test.YtpbdamnlfpfclaaDoorCnt
import Derived.Test.YtpbdamnlfpfclaaDoorLastOp
namespace Go.Proofs.YtpbdamnlfpfclaaDoor
open Go.RowKit
set_option linter.unusedSimpArgs false
set_option linter.unusedVariables false

/-- The slots, while the region runs. -/
structure AdS (g k m x : Nat) (f3 f4 f5 f6 f7 f8 f9 f10 f11 f12 f13 f14 f15 f16 f17 f18 f19 : Value) (L : Nat → Bool) (v20 v21 v22 v23 v24 v25 v26 v27 v28 v29 v30 v31 : Value) : Prop where
  e20 : L 0 = true → v20 = .pointer (some ⟨g, 0, none⟩)
  e21 : L 1 = true → v21 = .int .i64 (k : Nat)
  e22 : L 2 = true → v22 = .pointer (some ⟨g, 0, none⟩)
  e23 : L 3 = true → v23 = .int .i64 (k : Nat)
  e24 : L 4 = true → v24 = .pointer (some ⟨g, 0, none⟩)
  e25 : L 5 = true → v25 = .pointer (some ⟨g, k, none⟩)
  e26 : L 6 = true → v26 = .int .u32 (x : Nat)
  e27 : L 7 = true → v27 = .int .i64 (m : Nat)
  e28 : L 8 = true → v28 = .int .u64 (m : Nat)
  e29 : L 9 = true → v29 = .int .u32 (sumN x m : Nat)
  e30 : L 10 = true → v30 = .pointer (some ⟨g, 0, none⟩)
  e31 : L 11 = true → v31 = .pointer (some ⟨g, k, none⟩)
abbrev AdF (g k m x : Nat) (f3 f4 f5 f6 f7 f8 f9 f10 f11 f12 f13 f14 f15 f16 f17 f18 f19 : Value) (v20 v21 v22 v23 v24 v25 v26 v27 v28 v29 v30 v31 : Value) : Act := { tmps := #[.pointer (some ⟨g, 0, none⟩), .int .i64 (k : Nat), .int .i64 (m : Nat), f3, f4, f5, f6, f7, f8, f9, f10, f11, f12, f13, f14, f15, f16, f17, f18, f19, v20, v21, v22, v23, v24, v25, v26, v27, v28, v29, v30, v31], defers := [] }
def AdI (g k m x : Nat) (f3 f4 f5 f6 f7 f8 f9 f10 f11 f12 f13 f14 f15 f16 f17 f18 f19 : Value) (L : Nat → Bool) (ac : Act) : Prop :=
  ∃ v20 v21 v22 v23 v24 v25 v26 v27 v28 v29 v30 v31, ac = AdF g k m x f3 f4 f5 f6 f7 f8 f9 f10 f11 f12 f13 f14 f15 f16 f17 f18 f19 v20 v21 v22 v23 v24 v25 v26 v27 v28 v29 v30 v31 ∧ AdS g k m x f3 f4 f5 f6 f7 f8 f9 f10 f11 f12 f13 f14 f15 f16 f17 f18 f19 L v20 v21 v22 v23 v24 v25 v26 v27 v28 v29 v30 v31

set_option maxHeartbeats 4000000 in
theorem add_cell (g k m x : Nat) (hk : k < 14) (hx : x < 4294967296) (hm : m < 18446744073709551616) (w : World) (hc : w.cell? ⟨g, k, none⟩ = some (.int .u32 (x : Nat))) (hf : w.frozen? ⟨g, k, none⟩ = false) (hg : g < w.heap.size) :
    Calls Tryd.prog 6 #[.pointer (some ⟨g, 0, none⟩), .int .i64 (k : Nat), .int .i64 (m : Nat)] w fun e w' => e = .returned (.tuple #[]) ∧ ∃ w5, Below w.heap.size w w5 ∧ w' = w5.setCell ⟨g, k, none⟩ (.int .u32 (sumN x m : Nat)) := by
  have EM := Lib.hid (wrap_n64 hm)
  have HX := Lib.hid hx
  have HM := Lib.hid hm
  have Q0 := Lib.hid (show ∀ w5, Below w.heap.size w w5 → w5.cell? ⟨g, k, none⟩ = some (.int .u32 (x : Nat)) from fun w5 hb => (hb.cell (p := ⟨g, k, none⟩) hg).trans hc)
  have Q1 := Lib.hid (show ∀ w5, Below w.heap.size w w5 → w5.frozen? ⟨g, k, none⟩ = false from fun w5 hb => by
    have e := hb.block g hg
    unfold World.frozen? at hf ⊢
    rw [e]
    exact hf)
  have hki : (k : Int) < 14 := by omega
  have hki2 : ¬ (14 : Int) ≤ (k : Int) := by omega
  have c1 : decide ((k : Int) < 0) = false := by simp
  have c2 : decide ((k : Int) ≥ 14) = false := by simp; omega
  have c3 : decide ((m : Int) < 0) = false := by simp
  clear hx hm hc hf
  go_enter Tryd.func6, Tryd.ntmps6
  go_upto_region 1 with fail
  refine wp_region_last 12 (I := AdI g k m x _ _ _ _ _ _ _ _ _ _ _ _ _ _ _ _ _) (by kernel_rfl) (by kernel_rfl) (by kernel_rfl) ⟨_, _, _, _, _, _, _, _, _, _, _, _, rfl, ⟨(fun h => Bool.noConfusion h), (fun h => Bool.noConfusion h), (fun h => Bool.noConfusion h), (fun h => Bool.noConfusion h), (fun h => Bool.noConfusion h), (fun h => Bool.noConfusion h), (fun h => Bool.noConfusion h), (fun h => Bool.noConfusion h), (fun h => Bool.noConfusion h), (fun h => Bool.noConfusion h), (fun h => Bool.noConfusion h), (fun h => Bool.noConfusion h)⟩⟩ ?_
  intro w5 hb5
  have q0 : w5.cell? ⟨g, k, none⟩ = some (.int .u32 (x : Nat)) := Q0.out w5 hb5
  have q1 : w5.frozen? ⟨g, k, none⟩ = false := Q1.out w5 hb5
  have em := EM.out
  refine ⟨?_, ?_⟩
  · intro i hi Lx ac hI hL haft
    obtain ⟨v20, v21, v22, v23, v24, v25, v26, v27, v28, v29, v30, v31, rfl, hs⟩ := hI
    match i, hi with
    | 0, _ =>
      exact i_val rfl (.pointer (some ⟨g, 0, none⟩)) w5 (by rfl) (by go_simp) ⟨⟨(.pointer (some ⟨g, 0, none⟩)), v21, v22, v23, v24, v25, v26, v27, v28, v29, v30, v31, rfl, { hs with e20 := fun _ => rfl }⟩, rfl⟩
    | 1, _ =>
      exact i_val rfl (.int .i64 (k : Nat)) w5 (by rfl) (by go_simp) ⟨⟨v20, (.int .i64 (k : Nat)), v22, v23, v24, v25, v26, v27, v28, v29, v30, v31, rfl, { hs with e21 := fun _ => rfl }⟩, rfl⟩
    | 2, _ =>
      exact i_val rfl (.pointer (some ⟨g, 0, none⟩)) w5 (by rfl) (by go_simp) ⟨⟨v20, v21, (.pointer (some ⟨g, 0, none⟩)), v23, v24, v25, v26, v27, v28, v29, v30, v31, rfl, { hs with e22 := fun _ => rfl }⟩, rfl⟩
    | 3, _ =>
      exact i_val rfl (.int .i64 (k : Nat)) w5 (by rfl) (by go_simp) ⟨⟨v20, v21, v22, (.int .i64 (k : Nat)), v24, v25, v26, v27, v28, v29, v30, v31, rfl, { hs with e23 := fun _ => rfl }⟩, rfl⟩
    | 4, _ =>
      have e22x := hs.e22 (haft 2 (by decide))
      subst e22x
      exact i_val rfl (.pointer (some ⟨g, 0, none⟩)) w5 (by rfl) (by go_simp) ⟨⟨v20, v21, (.pointer (some ⟨g, 0, none⟩)), v23, (.pointer (some ⟨g, 0, none⟩)), v25, v26, v27, v28, v29, v30, v31, rfl, { hs with e24 := fun _ => rfl }⟩, rfl⟩
    | 5, _ =>
      have e24x := hs.e24 (haft 4 (by decide))
      subst e24x
      have e23x := hs.e23 (haft 3 (by decide))
      subst e23x
      exact i_val rfl (.pointer (some ⟨g, k, none⟩)) w5 (by rfl) (by go_simp) ⟨⟨v20, v21, v22, (.int .i64 (k : Nat)), (.pointer (some ⟨g, 0, none⟩)), (.pointer (some ⟨g, k, none⟩)), v26, v27, v28, v29, v30, v31, rfl, { hs with e25 := fun _ => rfl }⟩, rfl⟩
    | 6, _ =>
      have e25x := hs.e25 (haft 5 (by decide))
      subst e25x
      exact i_val rfl (.int .u32 (x : Nat)) w5 (by rfl) (by go_simp) ⟨⟨v20, v21, v22, v23, v24, (.pointer (some ⟨g, k, none⟩)), (.int .u32 (x : Nat)), v27, v28, v29, v30, v31, rfl, { hs with e26 := fun _ => rfl }⟩, rfl⟩
    | 7, _ =>
      exact i_val rfl (.int .i64 (m : Nat)) w5 (by rfl) (by go_simp) ⟨⟨v20, v21, v22, v23, v24, v25, v26, (.int .i64 (m : Nat)), v28, v29, v30, v31, rfl, { hs with e27 := fun _ => rfl }⟩, rfl⟩
    | 8, _ =>
      have e27x := hs.e27 (haft 7 (by decide))
      subst e27x
      exact i_val rfl (.int .u64 (m : Nat)) w5 (by rfl) (by go_simp) ⟨⟨v20, v21, v22, v23, v24, v25, v26, (.int .i64 (m : Nat)), (.int .u64 (m : Nat)), v29, v30, v31, rfl, { hs with e28 := fun _ => rfl }⟩, rfl⟩
    | 9, _ =>
      have e26x := hs.e26 (haft 6 (by decide))
      subst e26x
      have e28x := hs.e28 (haft 8 (by decide))
      subst e28x
      exact i_call rfl (.int .u32 (sumN x m : Nat)) 11 #[.int .u32 (x : Nat), .int .u64 (m : Nat)] (fun w' => w5 = w') (by rfl) (by go_simp) (sum11_any x m HX.out HM.out w5) fun w' h => h ▸ ⟨⟨v20, v21, v22, v23, v24, v25, (.int .u32 (x : Nat)), v27, (.int .u64 (m : Nat)), (.int .u32 (sumN x m : Nat)), v30, v31, rfl, { hs with e29 := fun _ => rfl }⟩, rfl⟩
    | 10, _ =>
      have e20x := hs.e20 (haft 0 (by decide))
      subst e20x
      exact i_val rfl (.pointer (some ⟨g, 0, none⟩)) w5 (by rfl) (by go_simp) ⟨⟨(.pointer (some ⟨g, 0, none⟩)), v21, v22, v23, v24, v25, v26, v27, v28, v29, (.pointer (some ⟨g, 0, none⟩)), v31, rfl, { hs with e30 := fun _ => rfl }⟩, rfl⟩
    | 11, _ =>
      have e30x := hs.e30 (haft 10 (by decide))
      subst e30x
      have e21x := hs.e21 (haft 1 (by decide))
      subst e21x
      exact i_val rfl (.pointer (some ⟨g, k, none⟩)) w5 (by rfl) (by go_simp) ⟨⟨v20, (.int .i64 (k : Nat)), v22, v23, v24, v25, v26, v27, v28, v29, (.pointer (some ⟨g, 0, none⟩)), (.pointer (some ⟨g, k, none⟩)), rfl, { hs with e31 := fun _ => rfl }⟩, rfl⟩
    | k + 12, h =>
      exfalso
      have h2 : k + 12 < 12 := h
      omega
  intro Lx ac hI hall
  obtain ⟨v20, v21, v22, v23, v24, v25, v26, v27, v28, v29, v30, v31, rfl, hs⟩ := hI
  have e20y := hs.e20 (hall 0 (by decide))
  subst e20y
  have e21y := hs.e21 (hall 1 (by decide))
  subst e21y
  have e22y := hs.e22 (hall 2 (by decide))
  subst e22y
  have e23y := hs.e23 (hall 3 (by decide))
  subst e23y
  have e24y := hs.e24 (hall 4 (by decide))
  subst e24y
  have e25y := hs.e25 (hall 5 (by decide))
  subst e25y
  have e26y := hs.e26 (hall 6 (by decide))
  subst e26y
  have e27y := hs.e27 (hall 7 (by decide))
  subst e27y
  have e28y := hs.e28 (hall 8 (by decide))
  subst e28y
  have e29y := hs.e29 (hall 9 (by decide))
  subst e29y
  have e30y := hs.e30 (hall 10 (by decide))
  subst e30y
  have e31y := hs.e31 (hall 11 (by decide))
  subst e31y
  clear hs hall
  refine i_skip rfl (w5.setCell ⟨g, k, none⟩ (.int .u32 (sumN x m : Nat))) (by rfl) (by go_simp) ?_
  have B5 := Lib.hid hb5
  clear hb5 q0 q1 em
  go_end0
  exact ⟨rfl, w5, B5.out, rfl⟩
/-- .. nothing, where it may not be. -/
theorem add_naught (g : Nat) (k n : Int) (h : ¬ (0 ≤ k ∧ k < 14 ∧ 0 ≤ n)) (w : World) :
    Calls Tryd.prog 6 #[.pointer (some ⟨g, 0, none⟩), .int .i64 k, .int .i64 n] w fun e w' => e = .returned (.tuple #[]) ∧ w = w' := by
  by_cases c1 : k < 0
  · go_enter Tryd.func6, Tryd.ntmps6
    go_wp2
    (try simp only [Exit.inBlock, Exit.then]); refine bodyPost_ret (results_none rfl _ _ _) rfl ?_
    exact ⟨rfl, rfl⟩
  · by_cases c2 : 14 ≤ k
    · go_enter Tryd.func6, Tryd.ntmps6
      go_wp2
      (try simp only [Exit.inBlock, Exit.then]); refine bodyPost_ret (results_none rfl _ _ _) rfl ?_
      exact ⟨rfl, rfl⟩
    · have c3 : n < 0 := by omega
      clear h
      go_enter Tryd.func6, Tryd.ntmps6
      go_wp2
      (try simp only [Exit.inBlock, Exit.then]); refine bodyPost_ret (results_none rfl _ _ _) rfl ?_
      exact ⟨rfl, rfl⟩
theorem add_nil (k n : Int) (w : World) : Calls Tryd.prog 6 #[.pointer none, .int .i64 k, .int .i64 n] w fun e w' => e = .returned (.tuple #[]) ∧ w = w' := by
  go_enter Tryd.func6, Tryd.ntmps6
  go_wp2
  (try simp only [Exit.inBlock, Exit.then]); refine bodyPost_ret (results_none rfl _ _ _) rfl ?_
  exact ⟨rfl, rfl⟩
end Go.Proofs.YtpbdamnlfpfclaaDoor
