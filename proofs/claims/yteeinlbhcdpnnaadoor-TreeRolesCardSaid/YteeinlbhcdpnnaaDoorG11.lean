import Derived.Test.YteeinlbhcdpnnaaDoorG10
import Derived.Test.YteeinlbhcdpnnaaDoorG4
import Derived.Test.YteeinlbhcdpnnaaDoorG9
import Derived.Test.YteeinlbhcdpnnaaDoorG1
import Derived.Test.YteeinlbhcdpnnaaDoorG3
set_option linter.unusedSimpArgs false
set_option linter.unusedVariables false
namespace Go.Proofs.YteeinlbhcdpnnaaDoor
section
open Go.RowKit
attribute [local irreducible] wpQuiet wpList
structure Mk0S (b ip : Nat) (qa : Option Addr) (ra : Nat) (l0 : List Int) (f4 f5 f6 f7 : Value) (L : Nat → Bool) (v9 v10 v11 v12 v13 v14 v15 v16 v17 v18 v19 v20 : Value) : Prop where
 e9 : L 0 = true → v9 = .pointer (some ⟨b, 0, none⟩)
 e10 : L 1 = true → v10 = .int .i64 0
 e11 : L 2 = true → v11 = .pointer (some ⟨b, 0, none⟩)
 e12 : L 3 = true → v12 = .int .i64 0
 e13 : L 4 = true → v13 = .pointer (some ⟨b, 0, none⟩)
 e14 : L 5 = true → v14 = .pointer (some ⟨b, 0, none⟩)
 e15 : L 6 = true → v15 = .slice qa l0.length ra
 e16 : L 7 = true → v16 = .int .i64 (ip : Nat)
 e19 : L 10 = true → v19 = .pointer (some ⟨b, 0, none⟩)
 e20 : L 11 = true → v20 = .pointer (some ⟨b, 0, none⟩)
abbrev Mk0F (b ip : Nat) (qa : Option Addr) (ra : Nat) (l0 : List Int) (f4 f5 f6 f7 : Value) (v9 v10 v11 v12 v13 v14 v15 v16 v17 v18 v19 v20 : Value) : Act := { tmps := #[.pointer (some ⟨b, 0, none⟩), .int .i64 0, .int .i64 (ip : Nat), .bool true, f4, f5, f6, f7, .bool true, v9, v10, v11, v12, v13, v14, v15, v16, v17, v18, v19, v20], defers := [] }
def Mk0I (b ip : Nat) (qa : Option Addr) (ra : Nat) (l0 : List Int) (f4 f5 f6 f7 : Value) (w1 : World) (L : Nat → Bool) (ac : Act) (w : World) : Prop :=
 ∃ v9 v10 v11 v12 v13 v14 v15 v16 v17 v18 v19 v20, ac = Mk0F b ip qa ra l0 f4 f5 f6 f7 v9 v10 v11 v12 v13 v14 v15 v16 v17 v18 v19 v20 ∧ Mk0S b ip qa ra l0 f4 f5 f6 f7 L v9 v10 v11 v12 v13 v14 v15 v16 v17 v18 v19 v20 ∧ ApW w1 0 3 1 inC (.slice qa l0.length ra) l0 (ip : Int) (L 8) (L 9) v17 v18 w
structure Mk1S (b ip : Nat) (qa : Option Addr) (ra : Nat) (l1 : List Int) (f4 f5 f6 f7 : Value) (L : Nat → Bool) (v9 v10 v11 v12 v13 v14 v15 v16 v17 v18 v19 v20 : Value) : Prop where
 e9 : L 0 = true → v9 = .pointer (some ⟨b, 0, none⟩)
 e10 : L 1 = true → v10 = .int .i64 1
 e11 : L 2 = true → v11 = .pointer (some ⟨b, 0, none⟩)
 e12 : L 3 = true → v12 = .int .i64 1
 e13 : L 4 = true → v13 = .pointer (some ⟨b, 0, none⟩)
 e14 : L 5 = true → v14 = .pointer (some ⟨b, 1, none⟩)
 e15 : L 6 = true → v15 = .slice qa l1.length ra
 e16 : L 7 = true → v16 = .int .i64 (ip : Nat)
 e19 : L 10 = true → v19 = .pointer (some ⟨b, 0, none⟩)
 e20 : L 11 = true → v20 = .pointer (some ⟨b, 1, none⟩)
abbrev Mk1F (b ip : Nat) (qa : Option Addr) (ra : Nat) (l1 : List Int) (f4 f5 f6 f7 : Value) (v9 v10 v11 v12 v13 v14 v15 v16 v17 v18 v19 v20 : Value) : Act := { tmps := #[.pointer (some ⟨b, 0, none⟩), .int .i64 1, .int .i64 (ip : Nat), .bool true, f4, f5, f6, f7, .bool true, v9, v10, v11, v12, v13, v14, v15, v16, v17, v18, v19, v20], defers := [] }
def Mk1I (b ip : Nat) (qa : Option Addr) (ra : Nat) (l1 : List Int) (f4 f5 f6 f7 : Value) (w1 : World) (L : Nat → Bool) (ac : Act) (w : World) : Prop :=
 ∃ v9 v10 v11 v12 v13 v14 v15 v16 v17 v18 v19 v20, ac = Mk1F b ip qa ra l1 f4 f5 f6 f7 v9 v10 v11 v12 v13 v14 v15 v16 v17 v18 v19 v20 ∧ Mk1S b ip qa ra l1 f4 f5 f6 f7 L v9 v10 v11 v12 v13 v14 v15 v16 v17 v18 v19 v20 ∧ ApW w1 0 3 1 inC (.slice qa l1.length ra) l1 (ip : Int) (L 8) (L 9) v17 v18 w
set_option maxRecDepth 100000 in
set_option maxHeartbeats 8000000 in
theorem mark0_yes {w : World} {b : Nat} {s0 s1 : Value} {l0 l1 : List Int} (ip : Nat) (h : Mk w b s0 s1 l0 l1) (hl : l0.length ≤ 1000) : Calls Tryd.prog 57 #[.pointer (some ⟨b, 0, none⟩), .int .i64 0, .int .i64 (ip : Nat), .bool true] w fun e w' => e = .returned (.tuple #[]) ∧ DoneM w b s0 s1 (l0 ++ [(ip : Int)]) l1 w' := by
 obtain ⟨qa, ra, ea, -⟩ := h.o0.shape
 subst ea
 have HM := Lib.hid h
 have HL := Lib.hid hl
 have KF := Lib.hid (show ∀ W, w.grownBy W (Value.slice qa l0.length ra).ownBlock → W.cell? ⟨b, 0, none⟩ = some (.slice qa l0.length ra) ∧ W.frozen? ⟨b, 0, none⟩ = false from fun W hW => by
  have q1 := h.blk.grown hW (fun e => h.b0 e.symm)
  exact ⟨q1.cell 0, q1.free 0⟩)
 clear h hl
 go_enter Tryd.func57, Tryd.ntmps57
 go_upto_region 0 with fail
 go_upto_region 1 with fail
 refine wp_region_lastW 12 (I := Mk0I b ip qa ra l0 _ _ _ _ w) (by kernel_rfl) (by kernel_rfl) (by kernel_rfl) ⟨_, _, _, _, _, _, _, _, _, _, _, _, rfl, ⟨(fun h => Bool.noConfusion h), (fun h => Bool.noConfusion h), (fun h => Bool.noConfusion h), (fun h => Bool.noConfusion h), (fun h => Bool.noConfusion h), (fun h => Bool.noConfusion h), (fun h => Bool.noConfusion h), (fun h => Bool.noConfusion h), (fun h => Bool.noConfusion h), (fun h => Bool.noConfusion h)⟩, ApW.start HM.out.o0 (Nat.zero_le _)⟩ ?_ ?_
 ·
  intro o ho Lx ac w' hI hL haft
  obtain ⟨v9, v10, v11, v12, v13, v14, v15, v16, v17, v18, v19, v20, rfl, hs, hw⟩ := hI
  match o, ho with
  | 0, _ =>
   exact i_val rfl (.pointer (some ⟨b, 0, none⟩)) w' (by rfl) (by go_simp) ⟨(.pointer (some ⟨b, 0, none⟩)), v10, v11, v12, v13, v14, v15, v16, v17, v18, v19, v20, rfl, { hs with e9 := fun _ => rfl }, hw⟩
  | 1, _ =>
   exact i_val rfl (.int .i64 0) w' (by rfl) (by go_simp) ⟨v9, (.int .i64 0), v11, v12, v13, v14, v15, v16, v17, v18, v19, v20, rfl, { hs with e10 := fun _ => rfl }, hw⟩
  | 2, _ =>
   exact i_val rfl (.pointer (some ⟨b, 0, none⟩)) w' (by rfl) (by go_simp) ⟨v9, v10, (.pointer (some ⟨b, 0, none⟩)), v12, v13, v14, v15, v16, v17, v18, v19, v20, rfl, { hs with e11 := fun _ => rfl }, hw⟩
  | 3, _ =>
   exact i_val rfl (.int .i64 0) w' (by rfl) (by go_simp) ⟨v9, v10, v11, (.int .i64 0), v13, v14, v15, v16, v17, v18, v19, v20, rfl, { hs with e12 := fun _ => rfl }, hw⟩
  | 4, _ =>
   have e11x := hs.e11 (haft 2 (by decide))
   subst e11x
   exact i_val rfl (.pointer (some ⟨b, 0, none⟩)) w' (by rfl) (by go_simp) ⟨v9, v10, (.pointer (some ⟨b, 0, none⟩)), v12, (.pointer (some ⟨b, 0, none⟩)), v14, v15, v16, v17, v18, v19, v20, rfl, { hs with e13 := fun _ => rfl }, hw⟩
  | 5, _ =>
   have e13x := hs.e13 (haft 4 (by decide))
   subst e13x
   have e12x := hs.e12 (haft 3 (by decide))
   subst e12x
   exact i_val rfl (.pointer (some ⟨b, 0, none⟩)) w' (by rfl) (by go_simp) ⟨v9, v10, v11, (.int .i64 0), (.pointer (some ⟨b, 0, none⟩)), (.pointer (some ⟨b, 0, none⟩)), v15, v16, v17, v18, v19, v20, rfl, { hs with e14 := fun _ => rfl }, hw⟩
  | 6, _ =>
   have e14x := hs.e14 (haft 5 (by decide))
   subst e14x
   exact i_val rfl (.slice qa l0.length ra) w' (by rfl) (by have q := (KF.out w' hw.g).1; go_simp) ⟨v9, v10, v11, v12, v13, (.pointer (some ⟨b, 0, none⟩)), (.slice qa l0.length ra), v16, v17, v18, v19, v20, rfl, { hs with e15 := fun _ => rfl }, hw⟩
  | 7, _ =>
   exact i_val rfl (.int .i64 (ip : Nat)) w' (by rfl) (by go_simp) ⟨v9, v10, v11, v12, v13, v14, v15, (.int .i64 (ip : Nat)), v17, v18, v19, v20, rfl, { hs with e16 := fun _ => rfl }, hw⟩
  | 8, _ =>
   have e16x := hs.e16 (haft 7 (by decide))
   subst e16x
   exact i_val rfl (.slice (some ⟨w'.heap.size, 0, none⟩) 1 1) (w'.alloc (.cells (#[.int .i64 (ip : Int)]) 3)) (by rfl) (run_bs1 45 (.tmp 16) rfl (.int .i64 (ip : Int)) _ rfl (one_in (ip : Int) w')) ⟨v9, v10, v11, v12, v13, v14, v15, (.int .i64 (ip : Nat)), (.slice (some ⟨w'.heap.size, 0, none⟩) 1 1), v18, v19, v20, rfl, { hs with }, hw.made inT hL _ rfl⟩
  | 9, _ =>
   have e15x := hs.e15 (haft 6 (by decide))
   subst e15x
   obtain ⟨u, w2, hrun, hw2⟩ := hw.app inT (haft 8 (by decide)) hL (by have := HL.out; omega) 45
   have hmk := haft 8 (by decide)
   exact i_wp rfl (by rfl) (wp_append_lst _ _ 45 rfl u w2 hrun ⟨v9, v10, v11, v12, v13, v14, (.slice qa l0.length ra), v16, v17, u, v19, v20, rfl, { hs with }, by rw [show upd Lx 9 8 = true from hmk]; exact hw2⟩)
  | 10, _ =>
   have e9x := hs.e9 (haft 0 (by decide))
   subst e9x
   exact i_val rfl (.pointer (some ⟨b, 0, none⟩)) w' (by rfl) (by go_simp) ⟨(.pointer (some ⟨b, 0, none⟩)), v10, v11, v12, v13, v14, v15, v16, v17, v18, (.pointer (some ⟨b, 0, none⟩)), v20, rfl, { hs with e19 := fun _ => rfl }, hw⟩
  | 11, _ =>
   have e19x := hs.e19 (haft 10 (by decide))
   subst e19x
   have e10x := hs.e10 (haft 1 (by decide))
   subst e10x
   exact i_val rfl (.pointer (some ⟨b, 0, none⟩)) w' (by rfl) (by go_simp) ⟨v9, (.int .i64 0), v11, v12, v13, v14, v15, v16, v17, v18, (.pointer (some ⟨b, 0, none⟩)), (.pointer (some ⟨b, 0, none⟩)), rfl, { hs with e20 := fun _ => rfl }, hw⟩
  | k + 12, h =>
   exfalso
   have h2 : k + 12 < 12 := h
   omega
 intro Lx ac w' hI hall
 obtain ⟨v9, v10, v11, v12, v13, v14, v15, v16, v17, v18, v19, v20, rfl, hs, hw⟩ := hI
 have e9y := hs.e9 (hall 0 (by decide))
 subst e9y
 have e10y := hs.e10 (hall 1 (by decide))
 subst e10y
 have e11y := hs.e11 (hall 2 (by decide))
 subst e11y
 have e12y := hs.e12 (hall 3 (by decide))
 subst e12y
 have e13y := hs.e13 (hall 4 (by decide))
 subst e13y
 have e14y := hs.e14 (hall 5 (by decide))
 subst e14y
 have e15y := hs.e15 (hall 6 (by decide))
 subst e15y
 have e16y := hs.e16 (hall 7 (by decide))
 subst e16y
 have e19y := hs.e19 (hall 10 (by decide))
 subst e19y
 have e20y := hs.e20 (hall 11 (by decide))
 subst e20y
 have HA := Lib.hid hw
 rw [hall 8 (by decide), hall 9 (by decide)] at HA
 clear hs hall hw
 have GR := Lib.hid HA.out.g
 obtain ⟨q', r', eu, -⟩ := (HA.out.pr rfl).shape
 rw [show (l0 ++ [(ip : Int)]).length = l0.length + 1 from by simp] at eu
 subst eu
 have Q1 := (KF.out w' GR.out).1
 have Q2 := (KF.out w' GR.out).2
 refine i_skip rfl (w'.setCell ⟨b, 0, none⟩ (.slice q' (l0.length + 1) r')) (by rfl) (by go_simp) ?_
 go_end0
 exact ⟨rfl, HM.out.app0 HA.out⟩
set_option maxRecDepth 100000 in
set_option maxHeartbeats 8000000 in
theorem mark0_no {w : World} {b : Nat} {s0 s1 : Value} {l0 l1 : List Int} (ip : Nat) (h : Mk w b s0 s1 l0 l1) : Calls Tryd.prog 57 #[.pointer (some ⟨b, 0, none⟩), .int .i64 0, .int .i64 (ip : Nat), .bool false] w fun e w' => e = .returned (.tuple #[]) ∧ DoneM w b s0 s1 l0 l1 w' := by
 have HM := Lib.hid h.same
 clear h
 go_enter Tryd.func57, Tryd.ntmps57
 go_upto_region 0 with fail
 go_wp2_with fail
 go_end0
 exact ⟨rfl, HM.out⟩
set_option maxRecDepth 100000 in
set_option maxHeartbeats 8000000 in
theorem mark1_yes {w : World} {b : Nat} {s0 s1 : Value} {l0 l1 : List Int} (ip : Nat) (h : Mk w b s0 s1 l0 l1) (hl : l1.length ≤ 1000) : Calls Tryd.prog 57 #[.pointer (some ⟨b, 0, none⟩), .int .i64 1, .int .i64 (ip : Nat), .bool true] w fun e w' => e = .returned (.tuple #[]) ∧ DoneM w b s0 s1 l0 (l1 ++ [(ip : Int)]) w' := by
 obtain ⟨qa, ra, ea, -⟩ := h.o1.shape
 subst ea
 have HM := Lib.hid h
 have HL := Lib.hid hl
 have KF := Lib.hid (show ∀ W, w.grownBy W (Value.slice qa l1.length ra).ownBlock → W.cell? ⟨b, 1, none⟩ = some (.slice qa l1.length ra) ∧ W.frozen? ⟨b, 1, none⟩ = false from fun W hW => by
  have q1 := h.blk.grown hW (fun e => h.b1 e.symm)
  exact ⟨q1.cell 1, q1.free 1⟩)
 clear h hl
 go_enter Tryd.func57, Tryd.ntmps57
 go_upto_region 0 with fail
 go_upto_region 1 with fail
 refine wp_region_lastW 12 (I := Mk1I b ip qa ra l1 _ _ _ _ w) (by kernel_rfl) (by kernel_rfl) (by kernel_rfl) ⟨_, _, _, _, _, _, _, _, _, _, _, _, rfl, ⟨(fun h => Bool.noConfusion h), (fun h => Bool.noConfusion h), (fun h => Bool.noConfusion h), (fun h => Bool.noConfusion h), (fun h => Bool.noConfusion h), (fun h => Bool.noConfusion h), (fun h => Bool.noConfusion h), (fun h => Bool.noConfusion h), (fun h => Bool.noConfusion h), (fun h => Bool.noConfusion h)⟩, ApW.start HM.out.o1 (Nat.zero_le _)⟩ ?_ ?_
 ·
  intro o ho Lx ac w' hI hL haft
  obtain ⟨v9, v10, v11, v12, v13, v14, v15, v16, v17, v18, v19, v20, rfl, hs, hw⟩ := hI
  match o, ho with
  | 0, _ =>
   exact i_val rfl (.pointer (some ⟨b, 0, none⟩)) w' (by rfl) (by go_simp) ⟨(.pointer (some ⟨b, 0, none⟩)), v10, v11, v12, v13, v14, v15, v16, v17, v18, v19, v20, rfl, { hs with e9 := fun _ => rfl }, hw⟩
  | 1, _ =>
   exact i_val rfl (.int .i64 1) w' (by rfl) (by go_simp) ⟨v9, (.int .i64 1), v11, v12, v13, v14, v15, v16, v17, v18, v19, v20, rfl, { hs with e10 := fun _ => rfl }, hw⟩
  | 2, _ =>
   exact i_val rfl (.pointer (some ⟨b, 0, none⟩)) w' (by rfl) (by go_simp) ⟨v9, v10, (.pointer (some ⟨b, 0, none⟩)), v12, v13, v14, v15, v16, v17, v18, v19, v20, rfl, { hs with e11 := fun _ => rfl }, hw⟩
  | 3, _ =>
   exact i_val rfl (.int .i64 1) w' (by rfl) (by go_simp) ⟨v9, v10, v11, (.int .i64 1), v13, v14, v15, v16, v17, v18, v19, v20, rfl, { hs with e12 := fun _ => rfl }, hw⟩
  | 4, _ =>
   have e11x := hs.e11 (haft 2 (by decide))
   subst e11x
   exact i_val rfl (.pointer (some ⟨b, 0, none⟩)) w' (by rfl) (by go_simp) ⟨v9, v10, (.pointer (some ⟨b, 0, none⟩)), v12, (.pointer (some ⟨b, 0, none⟩)), v14, v15, v16, v17, v18, v19, v20, rfl, { hs with e13 := fun _ => rfl }, hw⟩
  | 5, _ =>
   have e13x := hs.e13 (haft 4 (by decide))
   subst e13x
   have e12x := hs.e12 (haft 3 (by decide))
   subst e12x
   exact i_val rfl (.pointer (some ⟨b, 1, none⟩)) w' (by rfl) (by go_simp) ⟨v9, v10, v11, (.int .i64 1), (.pointer (some ⟨b, 0, none⟩)), (.pointer (some ⟨b, 1, none⟩)), v15, v16, v17, v18, v19, v20, rfl, { hs with e14 := fun _ => rfl }, hw⟩
  | 6, _ =>
   have e14x := hs.e14 (haft 5 (by decide))
   subst e14x
   exact i_val rfl (.slice qa l1.length ra) w' (by rfl) (by have q := (KF.out w' hw.g).1; go_simp) ⟨v9, v10, v11, v12, v13, (.pointer (some ⟨b, 1, none⟩)), (.slice qa l1.length ra), v16, v17, v18, v19, v20, rfl, { hs with e15 := fun _ => rfl }, hw⟩
  | 7, _ =>
   exact i_val rfl (.int .i64 (ip : Nat)) w' (by rfl) (by go_simp) ⟨v9, v10, v11, v12, v13, v14, v15, (.int .i64 (ip : Nat)), v17, v18, v19, v20, rfl, { hs with e16 := fun _ => rfl }, hw⟩
  | 8, _ =>
   have e16x := hs.e16 (haft 7 (by decide))
   subst e16x
   exact i_val rfl (.slice (some ⟨w'.heap.size, 0, none⟩) 1 1) (w'.alloc (.cells (#[.int .i64 (ip : Int)]) 3)) (by rfl) (run_bs1 45 (.tmp 16) rfl (.int .i64 (ip : Int)) _ rfl (one_in (ip : Int) w')) ⟨v9, v10, v11, v12, v13, v14, v15, (.int .i64 (ip : Nat)), (.slice (some ⟨w'.heap.size, 0, none⟩) 1 1), v18, v19, v20, rfl, { hs with }, hw.made inT hL _ rfl⟩
  | 9, _ =>
   have e15x := hs.e15 (haft 6 (by decide))
   subst e15x
   obtain ⟨u, w2, hrun, hw2⟩ := hw.app inT (haft 8 (by decide)) hL (by have := HL.out; omega) 45
   have hmk := haft 8 (by decide)
   exact i_wp rfl (by rfl) (wp_append_lst _ _ 45 rfl u w2 hrun ⟨v9, v10, v11, v12, v13, v14, (.slice qa l1.length ra), v16, v17, u, v19, v20, rfl, { hs with }, by rw [show upd Lx 9 8 = true from hmk]; exact hw2⟩)
  | 10, _ =>
   have e9x := hs.e9 (haft 0 (by decide))
   subst e9x
   exact i_val rfl (.pointer (some ⟨b, 0, none⟩)) w' (by rfl) (by go_simp) ⟨(.pointer (some ⟨b, 0, none⟩)), v10, v11, v12, v13, v14, v15, v16, v17, v18, (.pointer (some ⟨b, 0, none⟩)), v20, rfl, { hs with e19 := fun _ => rfl }, hw⟩
  | 11, _ =>
   have e19x := hs.e19 (haft 10 (by decide))
   subst e19x
   have e10x := hs.e10 (haft 1 (by decide))
   subst e10x
   exact i_val rfl (.pointer (some ⟨b, 1, none⟩)) w' (by rfl) (by go_simp) ⟨v9, (.int .i64 1), v11, v12, v13, v14, v15, v16, v17, v18, (.pointer (some ⟨b, 0, none⟩)), (.pointer (some ⟨b, 1, none⟩)), rfl, { hs with e20 := fun _ => rfl }, hw⟩
  | k + 12, h =>
   exfalso
   have h2 : k + 12 < 12 := h
   omega
 intro Lx ac w' hI hall
 obtain ⟨v9, v10, v11, v12, v13, v14, v15, v16, v17, v18, v19, v20, rfl, hs, hw⟩ := hI
 have e9y := hs.e9 (hall 0 (by decide))
 subst e9y
 have e10y := hs.e10 (hall 1 (by decide))
 subst e10y
 have e11y := hs.e11 (hall 2 (by decide))
 subst e11y
 have e12y := hs.e12 (hall 3 (by decide))
 subst e12y
 have e13y := hs.e13 (hall 4 (by decide))
 subst e13y
 have e14y := hs.e14 (hall 5 (by decide))
 subst e14y
 have e15y := hs.e15 (hall 6 (by decide))
 subst e15y
 have e16y := hs.e16 (hall 7 (by decide))
 subst e16y
 have e19y := hs.e19 (hall 10 (by decide))
 subst e19y
 have e20y := hs.e20 (hall 11 (by decide))
 subst e20y
 have HA := Lib.hid hw
 rw [hall 8 (by decide), hall 9 (by decide)] at HA
 clear hs hall hw
 have GR := Lib.hid HA.out.g
 obtain ⟨q', r', eu, -⟩ := (HA.out.pr rfl).shape
 rw [show (l1 ++ [(ip : Int)]).length = l1.length + 1 from by simp] at eu
 subst eu
 have Q1 := (KF.out w' GR.out).1
 have Q2 := (KF.out w' GR.out).2
 refine i_skip rfl (w'.setCell ⟨b, 1, none⟩ (.slice q' (l1.length + 1) r')) (by rfl) (by go_simp) ?_
 go_end0
 exact ⟨rfl, HM.out.app1 HA.out⟩
set_option maxRecDepth 100000 in
set_option maxHeartbeats 8000000 in
theorem mark1_no {w : World} {b : Nat} {s0 s1 : Value} {l0 l1 : List Int} (ip : Nat) (h : Mk w b s0 s1 l0 l1) : Calls Tryd.prog 57 #[.pointer (some ⟨b, 0, none⟩), .int .i64 1, .int .i64 (ip : Nat), .bool false] w fun e w' => e = .returned (.tuple #[]) ∧ DoneM w b s0 s1 l0 l1 w' := by
 have HM := Lib.hid h.same
 clear h
 go_enter Tryd.func57, Tryd.ntmps57
 go_upto_region 0 with fail
 go_wp2_with fail
 go_end0
 exact ⟨rfl, HM.out⟩
end
section
open Go.RowKit
attribute [local irreducible] wpQuiet wpList
def foldT (Tf : TS → Nat → TS) (t : TS) (idx : List Nat) : Nat → TS
 | 0 => t
 | j + 1 => match idx[j]? with
  | some i => Tf (foldT Tf t idx j) i
  | none => foldT Tf t idx j
theorem foldT_step {Tf : TS → Nat → TS} {t : TS} {idx : List Nat} {j i : Nat} (h : idx[j]? = some i) : foldT Tf t idx (j + 1) = Tf (foldT Tf t idx j) i := by
 show (match idx[j]? with | some i => Tf (foldT Tf t idx j) i | none => foldT Tf t idx j) = _
 rw [h]
def TmS (R : Tr) (l : List (Nat × Array Value × TypeId)) (b : Nat) (s0 s1 : Value) (l0 l1 : List Int) (t : TS) (w : World) : Prop :=
 Ta R l t w ∧ Mk w b s0 s1 l0 l1 ∧ ∀ k, footM b s0 s1 k → R.w0.heap.size ≤ k ∧ (∀ x ∈ l, x.1 ≠ k) ∧ ∀ tv fv, Tact w R.c tv fv t → ¬ foot R.c tv fv k
theorem TmS.seg {R : Tr} {w w' : World} {l : List (Nat × Array Value × TypeId)} {b : Nat} {s0 s1 : Value} {l0 l1 : List Int} {t t' : TS} {tv fv : Value} (h : TmS R l b s0 s1 l0 l1 t w) (h1 : Tact w R.c tv fv t) (hd : Done w R.c tv fv t' w') : TmS R l b s0 s1 l0 l1 t' w' := by
 obtain ⟨ta, m1, m2⟩ := h
 obtain ⟨tv2, fv2, a1, a2, a3⟩ := ta.act
 obtain ⟨rfl, rfl⟩ := tact_uniq h1 a1
 obtain ⟨tv', fv', k1, k2, k3⟩ := hd
 refine ⟨ta.act_step a1 a2 a3 k1 k2 k3, m1.fr k2 (fun k hk => (m2 k hk).2.2 _ _ a1), fun k hk => ⟨(m2 k hk).1, (m2 k hk).2.1, fun tv3 fv3 hq hf => ?_⟩⟩
 obtain ⟨rfl, rfl⟩ := tact_uniq hq k1
 rcases k3 k hf with q | q
 ·
  exact (m2 k hk).2.2 _ _ a1 q
 ·
  have := m1.lt hk; omega
theorem wpList_callT {P : Program} {ops : Array Oper} {Q : Exit → Act → World → Prop} {a : Act} {w : World} {rest : List Oper} {o : Oper} (f : FuncId) (args : Array Value) (v : Value) (R : World → Prop) (hw : Region.wanted o (yielded ops a.tmps) = true)
 (hv : (execOp a.eval o).run P w = .ok (.enter f args) w) (hc : Calls P f args w fun e w' => e = .returned v ∧ R w') (h : ∀ w', R w' → wpList P ops Q rest (a.put o.dst v) w') : wpList P ops Q (o :: rest) a w :=
 BigFrame.wpList_want hw fun K hK => by
  unfold Oper.wp
  simp only [hv, Oper.upon]
  exact hc.mono fun e w' ⟨he, hr⟩ => by subst he; exact hK _ _ (h w' hr)
theorem own_int {w : World} {s : Value} {l : List Int} {j : Nat} {x : Int} {qa : Option Addr} {n m : Nat} (h : Own w 0 3 1 inC (.slice qa n m) l) (hx : l[j]? = some x) : ∃ g, qa = some ⟨g, 0, none⟩ ∧ n = l.length ∧ n ≤ m ∧ m ≤ maxLen ∧ w.cell? ⟨g, j, none⟩ = some (.int .i64 x) := by
 rcases h.cases with ⟨e, e2⟩ | ⟨g, cap, e, -, -, h2, h3⟩
 ·
  rw [e2] at hx; cases hx
 ·
  injection e with e0 e1 e3
  subst e0 e1 e3
  refine ⟨g, rfl, rfl, h2, h3, ?_⟩
  have := Own.at (enc := inC) (size := 1) (fun _ => rfl) h j 0 x hx (by decide)
  rw [Nat.mul_one] at this
  exact this
set_option maxRecDepth 100000 in
set_option maxHeartbeats 8000000 in
theorem each0_any {R : Tr} {lo : List (Nat × Array Value × TypeId)} {b : Nat} {l0 l1 : List Int} {t : TS} {w : World} {cf : FuncId} {idx : List Nat} {Tf : TS → Nat → TS} (eg : ∀ (args : Array Value) (w : World), (callFunc cf args).run Tryd.prog w = .ok (.enter cf args) w) (h : Tm R lo b l0 l1 t w) (hi : l0 = idx.map (fun i : Nat => (i : Int)))
 (hc : ∀ (j i : Nat) (W : World) (tv fv : Value), idx[j]? = some i → Tact W R.c tv fv (foldT Tf t idx j) → Calls Tryd.prog cf #[.pointer (some ⟨R.c.b, 0, none⟩), .int .i64 (i : Nat)] W fun e w' => e = .returned (.tuple #[]) ∧ Done W R.c tv fv (Tf (foldT Tf t idx j) i) w') :
 Calls Tryd.prog 58 #[.pointer (some ⟨b, 0, none⟩), .int .i64 0, .func (.func cf) #[.pointer (some ⟨R.c.b, 0, none⟩)] #[]] w fun e w' => e = .returned (.tuple #[]) ∧ Tm R lo b l0 l1 (foldT Tf t idx idx.length) w' := by
 obtain ⟨s0, s1, m1, m2⟩ := h.mks
 obtain ⟨qa, ra, ea, -⟩ := m1.o0.shape
 subst ea
 have HI := Lib.hid hi
 have HCC := Lib.hid hc
 have EG := Lib.hid eg
 have HN := Lib.hid (show l0.length = idx.length by rw [hi, List.length_map])
 have T0 := Lib.hid (show TmS R lo b (.slice qa l0.length ra) s1 l0 l1 (foldT Tf t idx 0) w from ⟨h.ta, m1, m2⟩)
 obtain ⟨nn, hnn⟩ : ∃ z, z = l0.length := ⟨_, rfl⟩
 have HNN := Lib.hid hnn
 have HC0 := Lib.hid (show w.cell? ⟨b, 0, none⟩ = some (.slice qa nn ra) by rw [hnn]; exact m1.blk.cell 0)
 have HMX := Lib.hid (show nn ≤ ra ∧ ra ≤ maxLen by
  rw [hnn]
  rcases m1.o0.cases with ⟨e, e2⟩ | ⟨g, cap, e, -, -, h2, h3⟩
  ·
   injection e with e0 e1 e3
   rw [e1, e3]
   exact ⟨Nat.le_refl _, Nat.zero_le _⟩
  ·
   injection e with e0 e1 e3
   rw [e3]
   exact ⟨h2, h3⟩)
 rw [← hnn] at T0
 clear h hi hc eg m1 m2 hnn
 go_enter Tryd.func58, Tryd.ntmps58
 go_upto_region 0 with fail
 refine lz (wz6 (pT b 0) (iV 0) (pT b 0) (pT b 0) (.slice qa nn ra) (iV (nn : Nat)) (h5 := by have q := HC0.out; go_simp) (h := wz1 (iV 0) (h := nz ?_)))
 go_upto_region 1 with fail
 go_loopw [14] (fun i wr => ∃ j : Nat, j ≤ nn ∧ i = .int .i64 j ∧ TmS R lo b (.slice qa nn ra) s1 l0 l1 (foldT Tf t idx j) wr) (fun i _ => (nn - intOf i).toNat)
 case atStart => exact ⟨0, Nat.zero_le _, rfl, T0.out⟩
 case round =>
  obtain ⟨j, hj, rfl, hT⟩ := hrel
  have TR := Lib.hid hT
  have HJ := Lib.hid hj
  clear hT hj
  have i1 : (nn : Int) ≤ 9223372036854775807 := by have q1 := HMX.out.1; have q2 := HMX.out.2; unfold maxLen at q2; omega
  by_cases hlt : j < nn
  case neg =>
   have HLT := Lib.hid hlt
   clear hlt
   go_upto_region 1 with fail
   refine lz (wz1 (.bool false) (h1 := by have q := HLT.out; go_simp) (h := nz ?_))
   go_wp2_with fail
   go_end0
   have hjn : idx.length = j := by have q1 := HJ.out; have q2 := HLT.out; have q3 := HN.out; have q4 := HNN.out; omega
   exact ⟨rfl, by rw [hjn]; exact ⟨TR.out.1, _, _, TR.out.2.1, TR.out.2.2⟩⟩
  case pos =>
   have HLJ := Lib.hid hlt
   obtain ⟨i0, hi0⟩ : ∃ i, idx[j]? = some i := ⟨_, List.getElem?_eq_getElem (show j < idx.length by have q3 := HN.out; have q4 := HNN.out; omega)⟩
   have hx : l0[j]? = some (i0 : Int) := by rw [HI.out, List.getElem?_map, hi0]; rfl
   obtain ⟨g, rfl, -, -, -, hcell⟩ := own_int (s := undef) TR.out.2.1.o0 hx
   have HIX := Lib.hid hi0
   have HCE := Lib.hid hcell
   clear hlt hi0 hx hcell
   go_upto_region 1 with fail
   refine lz (wz1 (.bool true) (h1 := by have q := HLJ.out; go_simp) (h := nz ?_))
   go_upto_region 2 with fail
   refine lz (wz3 (pT g j) (iV (i0 : Nat)) (iV (i0 : Nat)) (h1 := by have q1 : j < nn := HLJ.out; have q2 : nn ≤ ra := HMX.out.1; go_simp) (h2 := by have q := HCE.out; go_simp) (h := nz ?_))
   go_upto_region 3 with fail
   refine lz (wz2 (.func (.func cf) #[pT R.c.b 0] #[]) (iV (i0 : Nat)) (h := ?_))
   refine wpList_callT cf #[.pointer (some ⟨R.c.b, 0, none⟩), .int .i64 (i0 : Nat)] (.tuple #[]) (fun w5 => TmS R lo b (.slice (some ⟨g, 0, none⟩) nn ra) s1 l0 l1 (foldT Tf t idx (j + 1)) w5) (by rfl) (by have q := EG.out #[.pointer (some ⟨R.c.b, 0, none⟩), .int .i64 (i0 : Nat)] wr; go_simp) ?_ ?_
   ·
    obtain ⟨tv, fv, a1, -, -⟩ := TR.out.1.act
    exact (HCC.out j i0 wr tv fv HIX.out a1).mono fun e w5 ⟨he, hd⟩ => ⟨he, by rw [foldT_step HIX.out]; exact TR.out.seg a1 hd⟩
   intro w5 hT5
   have T5 := Lib.hid hT5
   clear hT5
   (try simp only [Act.put, gA, gS, gZ, sA, sZ, sS])
   refine wpList_nil ?_
   have hlt := HLJ.out
   go_wp2_with fail
   go_roundw
   case rel => exact ⟨j + 1, HLJ.out, by go_num, T5.out⟩
   case measure => have := HLJ.out; simp [intOf]; omega
set_option maxRecDepth 100000 in
set_option maxHeartbeats 8000000 in
theorem each1_any {R : Tr} {lo : List (Nat × Array Value × TypeId)} {b : Nat} {l0 l1 : List Int} {t : TS} {w : World} {cf : FuncId} {idx : List Nat} {Tf : TS → Nat → TS} (eg : ∀ (args : Array Value) (w : World), (callFunc cf args).run Tryd.prog w = .ok (.enter cf args) w) (h : Tm R lo b l0 l1 t w) (hi : l1 = idx.map (fun i : Nat => (i : Int)))
 (hc : ∀ (j i : Nat) (W : World) (tv fv : Value), idx[j]? = some i → Tact W R.c tv fv (foldT Tf t idx j) → Calls Tryd.prog cf #[.pointer (some ⟨R.c.b, 0, none⟩), .int .i64 (i : Nat)] W fun e w' => e = .returned (.tuple #[]) ∧ Done W R.c tv fv (Tf (foldT Tf t idx j) i) w') :
 Calls Tryd.prog 58 #[.pointer (some ⟨b, 0, none⟩), .int .i64 1, .func (.func cf) #[.pointer (some ⟨R.c.b, 0, none⟩)] #[]] w fun e w' => e = .returned (.tuple #[]) ∧ Tm R lo b l0 l1 (foldT Tf t idx idx.length) w' := by
 obtain ⟨s0, s1, m1, m2⟩ := h.mks
 obtain ⟨qa, ra, ea, -⟩ := m1.o1.shape
 subst ea
 have HI := Lib.hid hi
 have HCC := Lib.hid hc
 have EG := Lib.hid eg
 have HN := Lib.hid (show l1.length = idx.length by rw [hi, List.length_map])
 have T0 := Lib.hid (show TmS R lo b s0 (.slice qa l1.length ra) l0 l1 (foldT Tf t idx 0) w from ⟨h.ta, m1, m2⟩)
 obtain ⟨nn, hnn⟩ : ∃ z, z = l1.length := ⟨_, rfl⟩
 have HNN := Lib.hid hnn
 have HC0 := Lib.hid (show w.cell? ⟨b, 1, none⟩ = some (.slice qa nn ra) by rw [hnn]; exact m1.blk.cell 1)
 have HMX := Lib.hid (show nn ≤ ra ∧ ra ≤ maxLen by
  rw [hnn]
  rcases m1.o1.cases with ⟨e, e2⟩ | ⟨g, cap, e, -, -, h2, h3⟩
  ·
   injection e with e0 e1 e3
   rw [e1, e3]
   exact ⟨Nat.le_refl _, Nat.zero_le _⟩
  ·
   injection e with e0 e1 e3
   rw [e3]
   exact ⟨h2, h3⟩)
 rw [← hnn] at T0
 clear h hi hc eg m1 m2 hnn
 go_enter Tryd.func58, Tryd.ntmps58
 go_upto_region 0 with fail
 refine lz (wz6 (pT b 0) (iV 1) (pT b 0) (pT b 1) (.slice qa nn ra) (iV (nn : Nat)) (h5 := by have q := HC0.out; go_simp) (h := wz1 (iV 0) (h := nz ?_)))
 go_upto_region 1 with fail
 go_loopw [14] (fun i wr => ∃ j : Nat, j ≤ nn ∧ i = .int .i64 j ∧ TmS R lo b s0 (.slice qa nn ra) l0 l1 (foldT Tf t idx j) wr) (fun i _ => (nn - intOf i).toNat)
 case atStart => exact ⟨0, Nat.zero_le _, rfl, T0.out⟩
 case round =>
  obtain ⟨j, hj, rfl, hT⟩ := hrel
  have TR := Lib.hid hT
  have HJ := Lib.hid hj
  clear hT hj
  have i1 : (nn : Int) ≤ 9223372036854775807 := by have q1 := HMX.out.1; have q2 := HMX.out.2; unfold maxLen at q2; omega
  by_cases hlt : j < nn
  case neg =>
   have HLT := Lib.hid hlt
   clear hlt
   go_upto_region 1 with fail
   refine lz (wz1 (.bool false) (h1 := by have q := HLT.out; go_simp) (h := nz ?_))
   go_wp2_with fail
   go_end0
   have hjn : idx.length = j := by have q1 := HJ.out; have q2 := HLT.out; have q3 := HN.out; have q4 := HNN.out; omega
   exact ⟨rfl, by rw [hjn]; exact ⟨TR.out.1, _, _, TR.out.2.1, TR.out.2.2⟩⟩
  case pos =>
   have HLJ := Lib.hid hlt
   obtain ⟨i0, hi0⟩ : ∃ i, idx[j]? = some i := ⟨_, List.getElem?_eq_getElem (show j < idx.length by have q3 := HN.out; have q4 := HNN.out; omega)⟩
   have hx : l1[j]? = some (i0 : Int) := by rw [HI.out, List.getElem?_map, hi0]; rfl
   obtain ⟨g, rfl, -, -, -, hcell⟩ := own_int (s := undef) TR.out.2.1.o1 hx
   have HIX := Lib.hid hi0
   have HCE := Lib.hid hcell
   clear hlt hi0 hx hcell
   go_upto_region 1 with fail
   refine lz (wz1 (.bool true) (h1 := by have q := HLJ.out; go_simp) (h := nz ?_))
   go_upto_region 2 with fail
   refine lz (wz3 (pT g j) (iV (i0 : Nat)) (iV (i0 : Nat)) (h1 := by have q1 : j < nn := HLJ.out; have q2 : nn ≤ ra := HMX.out.1; go_simp) (h2 := by have q := HCE.out; go_simp) (h := nz ?_))
   go_upto_region 3 with fail
   refine lz (wz2 (.func (.func cf) #[pT R.c.b 0] #[]) (iV (i0 : Nat)) (h := ?_))
   refine wpList_callT cf #[.pointer (some ⟨R.c.b, 0, none⟩), .int .i64 (i0 : Nat)] (.tuple #[]) (fun w5 => TmS R lo b s0 (.slice (some ⟨g, 0, none⟩) nn ra) l0 l1 (foldT Tf t idx (j + 1)) w5) (by rfl) (by have q := EG.out #[.pointer (some ⟨R.c.b, 0, none⟩), .int .i64 (i0 : Nat)] wr; go_simp) ?_ ?_
   ·
    obtain ⟨tv, fv, a1, -, -⟩ := TR.out.1.act
    exact (HCC.out j i0 wr tv fv HIX.out a1).mono fun e w5 ⟨he, hd⟩ => ⟨he, by rw [foldT_step HIX.out]; exact TR.out.seg a1 hd⟩
   intro w5 hT5
   have T5 := Lib.hid hT5
   clear hT5
   (try simp only [Act.put, gA, gS, gZ, sA, sZ, sS])
   refine wpList_nil ?_
   have hlt := HLJ.out
   go_wp2_with fail
   go_roundw
   case rel => exact ⟨j + 1, HLJ.out, by go_num, T5.out⟩
   case measure => have := HLJ.out; simp [intOf]; omega
end
section
open Go.RowKit
attribute [local irreducible] wpQuiet wpList
abbrev nilM : Array Value := #[.slice none 0 0, .slice none 0 0]
theorem zM : ∀ W : World, (zeroValue 138).run Tryd.prog W = .ok (.agg nilM) W := fun W => Tryd.zeroValue138 W
def markTo (p : Nat → Po → Bool) (l : List Po) : Nat → List Nat
 | 0 => []
 | k + 1 => match l[k]? with
  | some x => if p k x = true then markTo p l k ++ [k] else markTo p l k
  | none => markTo p l k
def castI (l : List Nat) : List Int := l.map fun i : Nat => (i : Int)
theorem markTo_yes {p : Nat → Po → Bool} {l : List Po} {k : Nat} {x : Po} (h : l[k]? = some x) (hp : p k x = true) : castI (markTo p l (k + 1)) = castI (markTo p l k) ++ [(k : Int)] := by
 show castI (match l[k]? with | some x => if p k x = true then markTo p l k ++ [k] else markTo p l k | none => markTo p l k) = _
 rw [h]
 show castI (if p k x = true then _ else _) = _
 rw [if_pos hp]
 simp [castI]
theorem markTo_no {p : Nat → Po → Bool} {l : List Po} {k : Nat} {x : Po} (h : l[k]? = some x) (hp : p k x = false) : castI (markTo p l (k + 1)) = castI (markTo p l k) := by
 show castI (match l[k]? with | some x => if p k x = true then markTo p l k ++ [k] else markTo p l k | none => markTo p l k) = _
 rw [h]
 show castI (if p k x = true then _ else _) = _
 rw [if_neg (by rw [hp]; decide)]
theorem markTo_lt {p : Nat → Po → Bool} {l : List Po} : ∀ k, (∀ i ∈ markTo p l k, i < k) ∧ (markTo p l k).length ≤ k
 | 0 => ⟨fun i h => by (cases h), Nat.le_refl _⟩
 | k + 1 => by
  have a := markTo_lt (p := p) (l := l) k
  have b : markTo p l (k + 1) = markTo p l k ++ [k] ∨ markTo p l (k + 1) = markTo p l k := by
   show (match l[k]? with | some x => if p k x = true then markTo p l k ++ [k] else markTo p l k | none => markTo p l k) = _ ∨ (match l[k]? with | some x => if p k x = true then markTo p l k ++ [k] else markTo p l k | none => markTo p l k) = _
   split
   ·
    split
    ·
     exact .inl rfl
    ·
     exact .inr rfl
   ·
    exact .inr rfl
  rcases b with b | b
  ·
   rw [b]
   refine ⟨fun i hi => ?_, by simp; exact a.2⟩
   rcases List.mem_append.1 hi with q | q
   ·
    have := a.1 i q; omega
   ·
    rw [List.mem_singleton.1 q]; omega
  ·
   rw [b]
   exact ⟨fun i hi => by have := a.1 i hi; omega, by have := a.2; omega⟩
theorem changedM_is (t : TS) (i : Nat) : (changedM t i).s.po.length = t.s.po.length ∧ (changedM t i).s.cf = t.s.cf ∧ (changedM t i).fl.length ≤ t.fl.length + t.s.po.length ∧ (changedM t i).told = t.told := by
 unfold changedM
 cases c : t.s.po[i]? with
 | none => exact ⟨rfl, rfl, Nat.le_add_right _ _, rfl⟩
 | some x =>
  show (if edgeB x = true then t else chgTo (twoH t) i (t.setPo (t.s.po.set i (chP x (twoH t)))) t.s.po.length).s.po.length = _ ∧ (if edgeB x = true then t else chgTo (twoH t) i (t.setPo (t.s.po.set i (chP x (twoH t)))) t.s.po.length).s.cf = _ ∧ (if edgeB x = true then t else chgTo (twoH t) i (t.setPo (t.s.po.set i (chP x (twoH t)))) t.s.po.length).fl.length ≤ _ ∧ (if edgeB x = true then t else chgTo (twoH t) i (t.setPo (t.s.po.set i (chP x (twoH t)))) t.s.po.length).told = _
  split
  ·
   exact ⟨rfl, rfl, Nat.le_add_right _ _, rfl⟩
  ·
   have q := chgTo_is (twoH t) i (t.setPo (t.s.po.set i (chP x (twoH t)))) t.s.po.length
   refine ⟨q.1.trans ?_, q.2.1, q.2.2.1, q.2.2.2⟩
   show (t.s.po.set i _).length = _
   rw [List.length_set]
theorem foldChanged_is (t : TS) (idx : List Nat) : ∀ j, (foldT changedM t idx j).s.po.length = t.s.po.length ∧ (foldT changedM t idx j).s.cf = t.s.cf ∧ (foldT changedM t idx j).fl.length ≤ t.fl.length + j * t.s.po.length ∧ (foldT changedM t idx j).told = t.told
 | 0 => ⟨rfl, rfl, by show t.fl.length ≤ _; omega, rfl⟩
 | j + 1 => by
  have a := foldChanged_is t idx j
  show (match idx[j]? with | some i => changedM (foldT changedM t idx j) i | none => foldT changedM t idx j).s.po.length = _ ∧ (match idx[j]? with | some i => changedM (foldT changedM t idx j) i | none => foldT changedM t idx j).s.cf = _ ∧ (match idx[j]? with | some i => changedM (foldT changedM t idx j) i | none => foldT changedM t idx j).fl.length ≤ _ ∧ (match idx[j]? with | some i => changedM (foldT changedM t idx j) i | none => foldT changedM t idx j).told = _
  have e : (j + 1) * t.s.po.length = j * t.s.po.length + t.s.po.length := by rw [Nat.succ_mul]
  split
  ·
   rename_i i _
   have b := changedM_is (foldT changedM t idx j) i
   refine ⟨b.1.trans a.1, b.2.1.trans a.2.1, ?_, b.2.2.2.trans a.2.2.2⟩
   have h1 := b.2.2.1
   have h2 := a.2.2.1
   rw [a.1] at h1
   omega
  ·
   exact ⟨a.1, a.2.1, by have := a.2.2.1; omega, a.2.2.2⟩
def stF (dl : Int) (_ : Nat) (x : Po) : Po := stepP x dl
def opF (dl : Int) (_ : Nat) (x : Po) : Bool := openedB x (stepP x dl)
def stepMM (t : TS) : TS := foldT changedM (mapTo (stF t.s.cf.p3) t t.s.po.length) (markTo (opF t.s.cf.p3) t.s.po t.s.po.length) (markTo (opF t.s.cf.p3) t.s.po t.s.po.length).length
theorem eg_changed (args : Array Value) (w : World) : (callFunc 59 args).run Tryd.prog w = .ok (.enter 59 args) w := by kernel_rfl
theorem eg_tell (args : Array Value) (w : World) : (callFunc 60 args).run Tryd.prog w = .ok (.enter 60 args) w := by kernel_rfl
end
section
open Go.RowKit
attribute [local irreducible] wpQuiet wpList
def pdU (q : Pd) (v : Vc) : Pd := { q with p8 := (v.r : Nat), p9 := (v.c : Nat), p10 := (v.b : Nat), p11 := (v.p : Nat) }
def hasV (x : Po) (v : Vc) : Prop := x.p13 = (v.r : Int) ∧ x.p14 = (v.c : Int) ∧ x.p15 = (v.b : Int) ∧ x.p16 = (v.p : Int)
instance (x : Po) (v : Vc) : Decidable (hasV x v) := by unfold hasV; infer_instance
def agreeM (t : TS) (i : Nat) (q : Pd) (v : Vc) : TS := match t.s.po[i]? with
 | some x => if q.p5 = true ∧ x.p10 = 4 ∧ hasV x v then (if openedB x (agreeP x) = true then changedM (t.setPo (t.s.po.set i (agreeP x))) i else t.setPo (t.s.po.set i (agreeP x))) else t
 | none => t
theorem poU_eq (x : Po) (u v : Vc) : hasV (poU x u) v ↔ eqV v u = true := by
 constructor
 ·
  rintro ⟨h1, h2, h3, h4⟩
  have h1 : (u.r : Int) = v.r := h1
  have h2 : (u.c : Int) = v.c := h2
  have h3 : (u.b : Int) = v.b := h3
  have h4 : (u.p : Int) = v.p := h4
  simp [eqV]
  omega
 ·
  intro h
  simp [eqV] at h
  obtain ⟨⟨⟨a, b⟩, c⟩, d⟩ := h
  exact ⟨by show (u.r : Int) = v.r; rw [a], by show (u.c : Int) = v.c; rw [b], by show (u.b : Int) = v.b; rw [c], by show (u.p : Int) = v.p; rw [d]⟩
set_option maxRecDepth 100000 in
set_option maxHeartbeats 8000000 in
theorem told_pd (q : Pd) (v : Vc) (w : World) : Calls Tryd.prog 78 #[pdV (pdU q v)] w fun e w' => e = .returned (vcV v) ∧ Below w.heap.size w w' := by
 rw [show pdV (pdU q v) = .agg (pdA { q with p8 := (v.r : Nat), p9 := (v.c : Nat), p10 := (v.b : Nat), p11 := (v.p : Nat) }) from rfl]
 have K := Lib.hid (Kb.nil w)
 go_enter Tryd.func78, Tryd.ntmps78
 go_upto_region 0 with fail
 refine wp_region_lit ?_
 refine kb_box K.out 61 (.tmp 0) (pdA { q with p8 := (v.r : Nat), p9 := (v.c : Nat), p10 := (v.b : Nat), p11 := (v.p : Nat) }) rfl rfl (by rfl) (pz (h := ?_))
 intro b1 w1 K1
 refine kb_alloc K1.out 71 (nil4) rfl zV (by rfl) (pz (h := ?_))
 intro b2 w2 K2
 refine wpList_nil ?_
 go_upto_region 1 with fail
 refine lz (wz6 (pT b1 8) (.int .u64 (v.r : Nat)) (pT b1 9) (.int .u32 (v.c : Nat)) (pT b1 10) (.int .u64 (v.b : Nat)) (h2 := by have q : w2.cell? ⟨b1, 8, none⟩ = some (.int .u64 (v.r : Nat)) := K2.out.cell (i := 0) rfl (by rfl); go_simp) (h4 := by have q : w2.cell? ⟨b1, 9, none⟩ = some (.int .u32 (v.c : Nat)) := K2.out.cell (i := 0) rfl (by rfl); go_simp) (h6 := by have q : w2.cell? ⟨b1, 10, none⟩ = some (.int .u64 (v.b : Nat)) := K2.out.cell (i := 0) rfl (by rfl); go_simp) (h := wz3 (pT b1 11) (.int .u16 (v.p : Nat)) (.agg (vcA v)) (h2 := by have q : w2.cell? ⟨b1, 11, none⟩ = some (.int .u16 (v.p : Nat)) := K2.out.cell (i := 0) rfl (by rfl); go_simp) (h3 := by exact run_build_of 71 [(0, .tmp 4), (1, .tmp 6), (2, .tmp 8), (3, .tmp 10)] rfl _ (vcA v) rfl (by kernel_rfl)) (h := ?_)))
 refine kb_row K2.out 1 rfl 71 _ _ (vcA v) rfl rfl rfl rfl (sizeV) (by rfl) (by kernel_rfl) (py (h := ?_))
 intro w3 K3
 refine wpList_nil ?_
 go_wp2_with fail
 refine bodyPost_ret (v := .agg (vcA v)) (results_cell_row Tryd.results78 _ _ b2 71 (vcA v) (0, 0) _ rfl (K3.out.at (i := 1) rfl) Tryd.underlying71 rfl sizeV) rfl ?_
 exact ⟨rfl, K3.out.below⟩
end
section
open Go.RowKit
attribute [local irreducible] wpQuiet wpList
theorem built_act (s : St) (u1 u2 u3 u4 : Value) : Tryd.prog.built 112 [(0, .agg (stA s u1 u2 u3 u4))] = some (actA ⟨s, [], []⟩ u1 u2 u3 u4 (.slice none 0 0) (.slice none 0 0)) := by kernel_rfl
theorem wpList_callV {P : Program} {ops : Array Oper} {Q : Exit → Act → World → Prop} {a : Act} {w : World} {rest : List Oper} {o : Oper} (f : FuncId) (args : Array Value) (R : Value → World → Prop) (hw : Region.wanted o (yielded ops a.tmps) = true)
 (hv : (execOp a.eval o).run P w = .ok (.enter f args) w) (hc : Calls P f args w fun e w' => ∃ v, e = .returned v ∧ R v w') (h : ∀ v w', R v w' → wpList P ops Q rest (a.put o.dst v) w') : wpList P ops Q (o :: rest) a w :=
 BigFrame.wpList_want hw fun K hK => by
  unfold Oper.wp
  simp only [hv, Oper.upon]
  exact hc.mono fun e w' ⟨v, he, hr⟩ => by subst he; exact hK _ _ (h v w' hr)
theorem RolesAt.next {w w' : World} (h : RolesAt w) (hb : Below w.heap.size w w') : RolesAt w' := h.fr (F := fun _ => False) (Mv.of_below hb) (fun e => e)
structure Begun (w : World) (s : St) (c : Cs) (w' : World) : Prop where
 act : Tact w' c (.slice none 0 0) (.slice none 0 0) ⟨s, [], []⟩
 own : OwS w' w.heap.size s c.v1 c.v2 c.v3 c.v4
 apart : Apart c.v1 c.v2 c.v3 c.v4
 below : Below w.heap.size w w'
 last : ∀ k, (c.v1.ownBlock = some k ∨ c.v2.ownBlock = some k ∨ c.v3.ownBlock = some k ∨ c.v4.ownBlock = some k) → k < c.b
 new : w.heap.size ≤ c.b
set_option maxRecDepth 100000 in
set_option maxHeartbeats 8000000 in
theorem begin_any {w : World} {B : Nat} {s : St} {v1 v2 v3 v4 : Value} (hs : OwS w B s v1 v2 v3 v4) (hr : RolesAt w) (hf : s.po.length ≤ 100) : Calls Tryd.prog 29 #[stV s v1 v2 v3 v4] w fun e w' => ∃ c : Cs, e = .returned (.pointer (some ⟨c.b, 0, none⟩)) ∧ c.T = 112 ∧ Begun w s c w' := by
 have HS := Lib.hid hs
 have HR := Lib.hid hr
 have HF := Lib.hid hf
 have K := Lib.hid (Kb.nil w)
 clear hs hr hf
 go_enter Tryd.func29, Tryd.ntmps29
 go_upto_region 0 with fail
 refine wp_region_lit ?_
 refine kb_box K.out 40 (.tmp 0) (stA s v1 v2 v3 v4) rfl rfl (by rfl) (pz (h := ?_))
 intro b1 w1 K1
 refine wz1 (.pointer none) (h := nz ?_)
 go_upto_region 1 with fail
 refine lz (wz1 (.agg (stA s v1 v2 v3 v4)) (h1 := by exact kb_all K1.out 0 rfl 40 _ rfl rfl Tryd.underlying40 rfl (size41)) (h := ?_))
 refine wpList_callV 8 #[stV s v1 v2 v3 v4] (fun v w5 => ∃ u1 u2 u3 u4, v = stV s u1 u2 u3 u4 ∧ OwS w5 w1.heap.size s u1 u2 u3 u4 ∧ Apart u1 u2 u3 u4 ∧ Below w1.heap.size w1 w5) (by rfl) (by go_simp) ((clone_any (HS.out.next K1.out.below)).mono fun e w5 ⟨u1, u2, u3, u4, q1, q2, q3, q4⟩ => ⟨_, q1, u1, u2, u3, u4, rfl, q2, q3, q4⟩) ?_
 rintro v w5 ⟨u1, u2, u3, u4, rfl, q2, q3, q4⟩
 (try simp only [Act.put, gA, gS, gZ, sA, sZ, sS])
 have K5 := Lib.hid (K1.out.next q4)
 have Q2 := Lib.hid q2
 have Q3 := Lib.hid q3
 have Q4 := Lib.hid q4
 clear q2 q3 q4
 refine wz1 (.agg (actA ⟨s, [], []⟩ u1 u2 u3 u4 (.slice none 0 0) (.slice none 0 0))) (h1 := by exact run_build_of 112 [(0, .tmp 4)] rfl _ _ rfl (built_act s u1 u2 u3 u4)) (h := ?_)
 refine kb_box (Kb.nil w5) 112 (.tmp 5) (actA ⟨s, [], []⟩ u1 u2 u3 u4 (.slice none 0 0) (.slice none 0 0)) rfl rfl (by rfl) ?_
 intro b w6 hb hk
 have K6 := Lib.hid hk
 have HB := Lib.hid hb
 clear hk hb
 (try simp only [Act.put, gA, gS, gZ, sA, sZ, sS])
 refine wz1 (pT b 0) (h := nz ?_)
 go_wp2_with fail
 go_ret
 obtain ⟨a, n, m, rfl⟩ : ∃ a n m, u1 = .slice a n m := by
  obtain ⟨q, r, e, -⟩ := Q2.out.o1.shape
  exact ⟨q, _, r, e⟩
 have kb : Blk w6 b (actA ⟨s, [], []⟩ (.slice a n m) u2 u3 u4 (.slice none 0 0) (.slice none 0 0)) 112 := K6.out.all _ (List.mem_singleton.2 rfl)
 have hlt : ∀ {α : Type} {e : TypeId} {sz B0 : Nat} {enc : α → List Value} {v : Value} {l : List α}, Own w5 B0 e sz enc v l → ∀ k, v.ownBlock = some k → k < b := fun ho k hk => by
  rw [HB.out]
  exact (ho.lt k hk).2
 have hbw : w.heap.size ≤ b := by
  rw [HB.out]
  exact K5.out.below.size
 have b56 : Below w5.heap.size w5 w6 := K6.out.below
 have bw6 : Below w.heap.size w w6 := K5.out.below.trans (b56.mono K5.out.below.size)
 have hw1 : w.heap.size ≤ w1.heap.size := K1.out.below.size
 have o6 : OwS w6 w.heap.size s (.slice a n m) u2 u3 u4 := ⟨(Q2.out.o1.next b56).mono hw1, (Q2.out.o2.next b56).mono hw1, (Q2.out.o3.next b56).mono hw1, (Q2.out.o4.next b56).mono hw1, Q2.out.few⟩
 refine ⟨⟨112, b, a, n, m, u2, u3, u4⟩, rfl, rfl, ⟨⟨kb, o6.o1.mono (Nat.zero_le _), Own.nil _ _ _ _ _, Own.nil _ _ _ _ _, fun e => Nat.lt_irrefl _ (hlt Q2.out.o1 b e), (fun e => by cases e), (fun e => by cases e), (fun k _ e => by cases e), (fun k _ e => by cases e), (fun k e => by cases e), HR.out.next bw6, ?_, HF.out⟩, o6, Q3.out, bw6, ?_, hbw⟩⟩
 ·
  rintro (e | e | e | e)
  ·
   have := HR.out.lt
   have e : 0 = b := e
   omega
  ·
   have := (o6.o1.lt 0 e).1
   have := HR.out.lt
   omega
  ·
   cases e
  ·
   cases e
 ·
  rintro k (e | e | e | e)
  ·
   exact hlt Q2.out.o1 k e
  ·
   exact hlt Q2.out.o2 k e
  ·
   exact hlt Q2.out.o3 k e
  ·
   exact hlt Q2.out.o4 k e
end
section
open Go.RowKit
attribute [local irreducible] wpQuiet wpList
structure Rp where
 on : Bool
 hd : Bool
 v : Vc
 c : Nat
 i : Nat
def Rp.ok (x : Rp) : Prop := x.v.ok ∧ x.c < 4294967296 ∧ x.i < 65536
def rpA (x : Rp) : Array Value := #[.bool x.on, .bool x.hd, .int .u64 (x.v.r : Nat), .int .u32 (x.v.c : Nat), .int .u64 (x.v.b : Nat), .int .u16 (x.v.p : Nat), .int .u32 (x.c : Nat), .int .u16 (x.i : Nat)]
def rpC (x : Rp) : List Value := (rpA x).toList
abbrev nil8 : Array Value := #[.bool false, .bool false, .int .u64 0, .int .u32 0, .int .u64 0, .int .u16 0, .int .u32 0, .int .u16 0]
abbrev nilW : Array Value := #[.int .u64 0, .int .u32 0, .int .u64 0, .int .u16 0, .int .u16 0, .int .i64 0]
abbrev nilCh : Array Value := #[.int .u64 0, .int .u32 0, .int .i64 0, .slice none 0 0, .slice none 0 0]
def wyA (v : Vc) (i : Nat) (k : Int) : Array Value := #[.int .u64 (v.r : Nat), .int .u32 (v.c : Nat), .int .u64 (v.b : Nat), .int .u16 (v.p : Nat), .int .u16 (i : Nat), .int .i64 k]
theorem size47 : (Tryd.prog.info? 76).map (·.size) = some 8 := by kernel_rfl
theorem size83 : (Tryd.prog.info? 133).map (·.size) = some 6 := by kernel_rfl
theorem size34c : (Tryd.prog.info? 79).map (·.size) = some 5 := by kernel_rfl
set_option maxRecDepth 100000 in
theorem z47 : ∀ W : World, (zeroValue 76).run Tryd.prog W = .ok (.agg nil8) W := fun W => Tryd.zeroValue76 W
set_option maxRecDepth 100000 in
theorem z83 : ∀ W : World, (zeroValue 133).run Tryd.prog W = .ok (.agg nilW) W := fun W => Tryd.zeroValue133 W
set_option maxRecDepth 100000 in
theorem z34c : ∀ W : World, (zeroValue 79).run Tryd.prog W = .ok (.agg nilCh) W := fun W => Tryd.zeroValue79 W
def wayB (self : Nat) (x : Rp) : Bool := x.on && (x.hd && decide (x.v.b ≠ self))
def aheadB (x y : Rp) : Bool := if eqV (plusV x.v x.c) (plusV y.v y.c) then decide (x.i < y.i) else lessV (plusV x.v x.c) (plusV y.v y.c)
def roleN (self : Nat) (t : Vc) (x : Rp) : Int := if x.on then (if x.hd && lessV x.v t then (if x.v.b = self then 2 else 1) else 4) else 0
def wayA (self : Nat) (x : Rp) (k : Int) : Array Value := if wayB self x then wyA (plusV x.v x.c) x.i k else nilW
end
end Go.Proofs.YteeinlbhcdpnnaaDoor
