/- A link: Send, Cut. -/
import Derived.Test.YtiophmmcennjnaaLk1
namespace Go.Proofs.Ytiophmmcennjnaa
open Go.RowKit
attribute [local irreducible] wpQuiet wpList
set_option linter.unusedSimpArgs false
set_option linter.unusedVariables false

theorem mv_grown {w w' : World} {r : Option Nat} {F : Nat → Prop} (h : w.grownBy w' r) (hF : ∀ k, r = some k → F k) : Mv F w w' := (Mv.grown h).mono hF
theorem LkW.send0 {w w1 : World} {B g : Nat} {up : Bool} {v0 v1 u : Value} {a b : List ByteArray} {x : ByteArray} (h : LkW w B g up v0 v1 a b) (hB : B ≤ w.heap.size) (hg : w.grownBy w1 v0.ownBlock) (ho : Own w1 B 9 1 stC u (a ++ [x])) (hu : ∀ k, u.ownBlock = some k → v0.ownBlock = some k ∨ w.heap.size ≤ k) :
    LkR w B g v0 v1 up u v1 (a ++ [x]) b (w1.setCell ⟨g, 1, none⟩ u) := by
  have kb : Blk w1 g #[.bool up, v0, v1] 40 := h.blk.grown hg (fun e => h.n0 e.symm)
  have ug : u.ownBlock ≠ some g := fun e => by
    rcases hu g e with q | q
    · exact h.n0 q
    · have := h.blk.lt; omega
  refine ⟨⟨kb.set 1 u, ho.setCell ug u, ?_, ug, h.n1, fun k hk => ?_, h.low⟩, ?_, fun k hk => ?_⟩
  · refine Own.setCell (Own.kept h.o1 hg ?_) h.n1 u
    cases c : v1.ownBlock with
    | none => exact .inl rfl
    | some k => exact .inr (fun e => h.nd k e.symm c)
  · rcases hu k hk with q | q
    · exact h.nd k q
    · exact fun e => by have := (h.o1.lt k e).2; omega
  · exact (mv_grown hg (fun k q => .inr (.inl q))).trans (Mv.setCell w1 g 1 u) (fun k _ q => .inl q)
  · rcases hk with q | q | q
    · exact .inl (.inl q)
    · exact (hu k q).imp (fun q => .inr (.inl q)) id
    · exact .inl (.inr (.inr q))
theorem LkW.send1 {w w1 : World} {B g : Nat} {up : Bool} {v0 v1 u : Value} {a b : List ByteArray} {x : ByteArray} (h : LkW w B g up v0 v1 a b) (hB : B ≤ w.heap.size) (hg : w.grownBy w1 v1.ownBlock) (ho : Own w1 B 9 1 stC u (b ++ [x])) (hu : ∀ k, u.ownBlock = some k → v1.ownBlock = some k ∨ w.heap.size ≤ k) :
    LkR w B g v0 v1 up v0 u a (b ++ [x]) (w1.setCell ⟨g, 2, none⟩ u) := by
  have kb : Blk w1 g #[.bool up, v0, v1] 40 := h.blk.grown hg (fun e => h.n1 e.symm)
  have ug : u.ownBlock ≠ some g := fun e => by
    rcases hu g e with q | q
    · exact h.n1 q
    · have := h.blk.lt; omega
  refine ⟨⟨kb.set 2 u, ?_, ho.setCell ug u, h.n0, ug, fun k hk e => ?_, h.low⟩, ?_, fun k hk => ?_⟩
  · refine Own.setCell (Own.kept h.o0 hg ?_) h.n0 u
    cases c : v0.ownBlock with
    | none => exact .inl rfl
    | some k => exact .inr (fun e => h.nd k c e.symm)
  · rcases hu k e with q | q
    · exact h.nd k hk q
    · have := (h.o0.lt k hk).2; omega
  · exact (mv_grown hg (fun k q => .inr (.inr q))).trans (Mv.setCell w1 g 2 u) (fun k _ q => .inl q)
  · rcases hk with q | q | q
    · exact .inl (.inl q)
    · exact .inl (.inr (.inl q))
    · exact (hu k q).imp (fun q => .inr (.inr q)) id
theorem run_bs1 {P : Program} {o : Oper} {a : Act} {w w' : World} (t : TypeId) (x : Operand) (ho : o.op = .buildSlice t 1 #[(0, x)]) (v s : Value) (hv : a.eval x = v) (h : (Instr.buildSlice t 1 #[(0, v)]).run P w = .ok s w') : (execOp a.eval o).run P w = .ok (.value s) w' := by
  subst hv
  unfold execOp
  simp only [ho, List.map_toArray, List.map_cons, List.map_nil, Sem.run_bind, h, Result.andThen_ok, Sem.run_pure]
/-- Does a text go under way? -/
def goes (e : Int) (up : Bool) (a b : List ByteArray) : Bool := (e == 0 || e == 1) && up && !(unN e a b == 1000)
section
variable {w : World} {B g : Nat} {up : Bool} {v0 v1 : Value} {a b : List ByteArray}
theorem send_nil (e : Int) (x : ByteArray) (w : World) : Calls Try.prog 10 #[.pointer none, .int .i64 e, .string x] w fun y w' => y = .returned (.bool false) ∧ w' = w := by
  go_enter Try.func10, Try.ntmps10
  go_wp2_with (go_at_call 13; refine (has_nil e w).mono ?_; rintro y w ⟨rfl, rfl⟩)
  go_ret
  exact ⟨rfl, rfl⟩
theorem send_no (h : LkW w B g up v0 v1 a b) (e : Int) (x : ByteArray) (hn : goes e up a b = false) : Calls Try.prog 10 #[.pointer (some ⟨g, 0, none⟩), .int .i64 e, .string x] w fun y w' => y = .returned (.bool false) ∧ w' = w := by
  obtain ⟨q0, c0, rfl, -, -⟩ := h.o0.shape
  obtain ⟨q1, c1, rfl, -, -⟩ := h.o1.shape
  have k0 : w.cell? ⟨g, 1, none⟩ = some (.slice q0 a.length c0) := h.blk.cell 1
  have k1 : w.cell? ⟨g, 2, none⟩ = some (.slice q1 b.length c1) := h.blk.cell 2
  have ku : w.cell? ⟨g, 0, none⟩ = some (.bool up) := h.blk.cell 0
  have HK0 := Lib.hid k0
  have HK1 := Lib.hid k1
  have HKU := Lib.hid ku
  clear k0 k1 ku h
  by_cases e0 : e = 0 ∨ e = 1
  · cases up with
    | false =>
      clear hn
      have H := Lib.hid (show (decide (0 ≤ e) && decide (e < 2)) = true by rw [Bool.and_eq_true, decide_eq_true_eq, decide_eq_true_eq]; omega)
      clear e0
      have ku := HKU.out
      go_enter Try.func10, Try.ntmps10
      go_wp2_with (go_at_call 13; refine (has_any g e w).mono ?_; rw [H.out]; rintro y w ⟨rfl, rfl⟩)
      go_ret
      exact ⟨rfl, rfl⟩
    | true =>
      rcases e0 with rfl | rfl
      · have n0 : a.length = 1000 := by simpa [goes, unN] using hn
        have n1 : (a.length : Int) = 1000 := by omega
        rw [n0] at HK0
        clear hn
        have ku := HKU.out
        have k0 := HK0.out
        go_enter Try.func10, Try.ntmps10
        go_wp2_with (go_at_call 13; refine (has_any g 0 w).mono ?_; rintro y w ⟨rfl, rfl⟩)
        go_ret
        exact ⟨rfl, rfl⟩
      · have n0 : b.length = 1000 := by simpa [goes, unN] using hn
        have n1 : (b.length : Int) = 1000 := by omega
        rw [n0] at HK1
        clear hn
        have ku := HKU.out
        have k1 := HK1.out
        go_enter Try.func10, Try.ntmps10
        go_wp2_with (go_at_call 13; refine (has_any g 1 w).mono ?_; rintro y w ⟨rfl, rfl⟩)
        go_ret
        exact ⟨rfl, rfl⟩
  · have H := Lib.hid (show (decide (0 ≤ e) && decide (e < 2)) = false by rw [Bool.and_eq_false_iff, decide_eq_false_iff_not, decide_eq_false_iff_not]; omega)
    clear e0 hn
    go_enter Try.func10, Try.ntmps10
    go_wp2_with (go_at_call 13; refine (has_any g e w).mono ?_; rw [H.out]; rintro y w ⟨rfl, rfl⟩)
    go_ret
    exact ⟨rfl, rfl⟩
end
/-- The slots, while the region runs. -/
structure Sd0S (g : Nat) (q : Option Addr) (n c : Nat) (x : ByteArray) (f3 f4 f5 f6 f7 f8 f9 f10 f11 f12 f13 f14 f15 f16 f17 f18 f19 f20 f21 f22 f23 f24 f25 f26 f27 : Value) (L : Nat → Bool) (v28 v29 v30 v31 v32 v33 v34 v35 v36 v37 v38 v39 v40 v41 : Value) : Prop where
  e28 : L 0 = true → v28 = .pointer (some ⟨g, 0, none⟩)
  e29 : L 1 = true → v29 = .int .i64 0
  e30 : L 2 = true → v30 = .pointer (some ⟨g, 0, none⟩)
  e31 : L 3 = true → v31 = .int .i64 0
  e32 : L 4 = true → v32 = .pointer (some ⟨g, 0, none⟩)
  e33 : L 5 = true → v33 = .pointer (some ⟨g, 1, none⟩)
  e34 : L 6 = true → v34 = .pointer (some ⟨g, 1, none⟩)
  e35 : L 7 = true → v35 = .slice q n c
  e36 : L 8 = true → v36 = .string x
  e39 : L 11 = true → v39 = .pointer (some ⟨g, 0, none⟩)
  e40 : L 12 = true → v40 = .pointer (some ⟨g, 1, none⟩)
  e41 : L 13 = true → v41 = .pointer (some ⟨g, 1, none⟩)
abbrev Sd0F (g : Nat) (q : Option Addr) (n c : Nat) (x : ByteArray) (f3 f4 f5 f6 f7 f8 f9 f10 f11 f12 f13 f14 f15 f16 f17 f18 f19 f20 f21 f22 f23 f24 f25 f26 f27 : Value) (v28 v29 v30 v31 v32 v33 v34 v35 v36 v37 v38 v39 v40 v41 : Value) : Act := { tmps := #[.pointer (some ⟨g, 0, none⟩), .int .i64 0, .string x, f3, f4, f5, f6, f7, f8, f9, f10, f11, f12, f13, f14, f15, f16, f17, f18, f19, f20, f21, f22, f23, f24, f25, f26, f27, v28, v29, v30, v31, v32, v33, v34, v35, v36, v37, v38, v39, v40, v41], defers := [] }
def Sd0I (g : Nat) (q : Option Addr) (n c : Nat) (x : ByteArray) (f3 f4 f5 f6 f7 f8 f9 f10 f11 f12 f13 f14 f15 f16 f17 f18 f19 f20 f21 f22 f23 f24 f25 f26 f27 : Value) (w1 : World) (B : Nat) (l : List ByteArray) (L : Nat → Bool) (ac : Act) (w : World) : Prop :=
  ∃ v28 v29 v30 v31 v32 v33 v34 v35 v36 v37 v38 v39 v40 v41, ac = Sd0F g q n c x f3 f4 f5 f6 f7 f8 f9 f10 f11 f12 f13 f14 f15 f16 f17 f18 f19 f20 f21 f22 f23 f24 f25 f26 f27 v28 v29 v30 v31 v32 v33 v34 v35 v36 v37 v38 v39 v40 v41 ∧ Sd0S g q n c x f3 f4 f5 f6 f7 f8 f9 f10 f11 f12 f13 f14 f15 f16 f17 f18 f19 f20 f21 f22 f23 f24 f25 f26 f27 L v28 v29 v30 v31 v32 v33 v34 v35 v36 v37 v38 v39 v40 v41 ∧ ApW w1 B 9 1 stC (Value.slice q n c) l x (L 9) (L 10) v37 v38 w
set_option maxRecDepth 100000 in
set_option maxHeartbeats 8000000 in
theorem send_yes0 {w : World} {B g : Nat} {v0 v1 : Value} {a b : List ByteArray} (h : LkW w B g true v0 v1 a b) (hB : B ≤ w.heap.size) (x : ByteArray) (hn : a.length < 1000) : Calls Try.prog 10 #[.pointer (some ⟨g, 0, none⟩), .int .i64 0, .string x] w fun y w' => y = .returned (.bool true) ∧ ∃ u0 u1, LkR w B g v0 v1 true u0 u1 (a ++ [x]) b w' := by
  obtain ⟨q0, c0, rfl, -, -⟩ := h.o0.shape
  obtain ⟨q1, c1, rfl, -, -⟩ := h.o1.shape
  have ku : w.cell? ⟨g, 0, none⟩ = some (.bool true) := h.blk.cell 0
  have k0 : w.cell? ⟨g, 1, none⟩ = some (.slice q0 a.length c0) := h.blk.cell 1
  have hm : ¬ ((a.length : Int) = 1000) := by omega
  have HL := Lib.hid h
  have HB := Lib.hid hB
  have HLN := Lib.hid hn
  have KF := Lib.hid (show ∀ W, w.grownBy W (Value.slice q0 a.length c0).ownBlock → W.cell? ⟨g, 1, none⟩ = some (.slice q0 a.length c0) ∧ W.frozen? ⟨g, 1, none⟩ = false from fun W hW => by
    have q := h.blk.grown hW (fun e => h.n0 e.symm)
    exact ⟨q.cell 1, q.free 1⟩)
  clear h hB hn
  go_enter Try.func10, Try.ntmps10
  go_upto_region 3 with (go_at_call 13; refine (has_any g 0 w).mono ?_; rintro y w ⟨rfl, rfl⟩)
  clear ku k0 hm
  refine wp_region_lastW 14 (I := Sd0I g q0 a.length c0 x _ _ _ _ _ _ _ _ _ _ _ _ _ _ _ _ _ _ _ _ _ _ _ _ _ w B a) (by kernel_rfl) (by kernel_rfl) (by kernel_rfl) ⟨_, _, _, _, _, _, _, _, _, _, _, _, _, _, rfl, ⟨(fun h => Bool.noConfusion h), (fun h => Bool.noConfusion h), (fun h => Bool.noConfusion h), (fun h => Bool.noConfusion h), (fun h => Bool.noConfusion h), (fun h => Bool.noConfusion h), (fun h => Bool.noConfusion h), (fun h => Bool.noConfusion h), (fun h => Bool.noConfusion h), (fun h => Bool.noConfusion h), (fun h => Bool.noConfusion h), (fun h => Bool.noConfusion h)⟩, ApW.start HL.out.o0 HB.out⟩ ?_ ?_
  · intro o ho Lx ac w' hI hL haft
    obtain ⟨v28, v29, v30, v31, v32, v33, v34, v35, v36, v37, v38, v39, v40, v41, rfl, hs, hw⟩ := hI
    match o, ho with
    | 0, _ =>
      exact i_val rfl (.pointer (some ⟨g, 0, none⟩)) w' (by rfl) (by go_simp) ⟨(.pointer (some ⟨g, 0, none⟩)), v29, v30, v31, v32, v33, v34, v35, v36, v37, v38, v39, v40, v41, rfl, { hs with e28 := fun _ => rfl }, hw⟩
    | 1, _ =>
      exact i_val rfl (.int .i64 0) w' (by rfl) (by go_simp) ⟨v28, (.int .i64 0), v30, v31, v32, v33, v34, v35, v36, v37, v38, v39, v40, v41, rfl, { hs with e29 := fun _ => rfl }, hw⟩
    | 2, _ =>
      exact i_val rfl (.pointer (some ⟨g, 0, none⟩)) w' (by rfl) (by go_simp) ⟨v28, v29, (.pointer (some ⟨g, 0, none⟩)), v31, v32, v33, v34, v35, v36, v37, v38, v39, v40, v41, rfl, { hs with e30 := fun _ => rfl }, hw⟩
    | 3, _ =>
      exact i_val rfl (.int .i64 0) w' (by rfl) (by go_simp) ⟨v28, v29, v30, (.int .i64 0), v32, v33, v34, v35, v36, v37, v38, v39, v40, v41, rfl, { hs with e31 := fun _ => rfl }, hw⟩
    | 4, _ =>
      have e30x := hs.e30 (haft 2 (by decide))
      subst e30x
      exact i_val rfl (.pointer (some ⟨g, 0, none⟩)) w' (by rfl) (by go_simp) ⟨v28, v29, (.pointer (some ⟨g, 0, none⟩)), v31, (.pointer (some ⟨g, 0, none⟩)), v33, v34, v35, v36, v37, v38, v39, v40, v41, rfl, { hs with e32 := fun _ => rfl }, hw⟩
    | 5, _ =>
      have e32x := hs.e32 (haft 4 (by decide))
      subst e32x
      exact i_val rfl (.pointer (some ⟨g, 1, none⟩)) w' (by rfl) (by go_simp) ⟨v28, v29, v30, v31, (.pointer (some ⟨g, 0, none⟩)), (.pointer (some ⟨g, 1, none⟩)), v34, v35, v36, v37, v38, v39, v40, v41, rfl, { hs with e33 := fun _ => rfl }, hw⟩
    | 6, _ =>
      have e33x := hs.e33 (haft 5 (by decide))
      subst e33x
      have e31x := hs.e31 (haft 3 (by decide))
      subst e31x
      exact i_val rfl (.pointer (some ⟨g, 1, none⟩)) w' (by rfl) (by go_simp) ⟨v28, v29, v30, (.int .i64 0), v32, (.pointer (some ⟨g, 1, none⟩)), (.pointer (some ⟨g, 1, none⟩)), v35, v36, v37, v38, v39, v40, v41, rfl, { hs with e34 := fun _ => rfl }, hw⟩
    | 7, _ =>
      have e34x := hs.e34 (haft 6 (by decide))
      subst e34x
      exact i_val rfl (.slice q0 a.length c0) w' (by rfl) (by have q1 := (KF.out _ hw.g).1; go_simp) ⟨v28, v29, v30, v31, v32, v33, (.pointer (some ⟨g, 1, none⟩)), (.slice q0 a.length c0), v36, v37, v38, v39, v40, v41, rfl, { hs with e35 := fun _ => rfl }, hw⟩
    | 8, _ =>
      exact i_val rfl (.string x) w' (by rfl) (by go_simp) ⟨v28, v29, v30, v31, v32, v33, v34, v35, (.string x), v37, v38, v39, v40, v41, rfl, { hs with e36 := fun _ => rfl }, hw⟩
    | 9, _ =>
      have e36x := hs.e36 (haft 8 (by decide))
      subst e36x
      exact i_val rfl (.slice (some ⟨w'.heap.size, 0, none⟩) 1 1) (w'.alloc (.cells (#[.string x]) 9)) (by rfl) (run_bs1 26 (.tmp 36) rfl (.string x) _ rfl (one_st x w')) ⟨v28, v29, v30, v31, v32, v33, v34, v35, (.string x), (.slice (some ⟨w'.heap.size, 0, none⟩) 1 1), v38, v39, v40, v41, rfl, { hs with }, hw.made stT hL _ rfl⟩
    | 10, _ =>
      have e35x := hs.e35 (haft 7 (by decide))
      subst e35x
      obtain ⟨u, w2, hrun, hw2⟩ := hw.app stT (haft 9 (by decide)) hL (by have := HLN.out; omega) 26
      have hmk := haft 9 (by decide)
      exact i_wp rfl (by rfl) (wp_append_lst _ _ 26 rfl u w2 hrun ⟨v28, v29, v30, v31, v32, v33, v34, (.slice q0 a.length c0), v36, v37, u, v39, v40, v41, rfl, { hs with }, by rw [show upd Lx 10 9 = true from hmk]; exact hw2⟩)
    | 11, _ =>
      have e28x := hs.e28 (haft 0 (by decide))
      subst e28x
      exact i_val rfl (.pointer (some ⟨g, 0, none⟩)) w' (by rfl) (by go_simp) ⟨(.pointer (some ⟨g, 0, none⟩)), v29, v30, v31, v32, v33, v34, v35, v36, v37, v38, (.pointer (some ⟨g, 0, none⟩)), v40, v41, rfl, { hs with e39 := fun _ => rfl }, hw⟩
    | 12, _ =>
      have e39x := hs.e39 (haft 11 (by decide))
      subst e39x
      exact i_val rfl (.pointer (some ⟨g, 1, none⟩)) w' (by rfl) (by go_simp) ⟨v28, v29, v30, v31, v32, v33, v34, v35, v36, v37, v38, (.pointer (some ⟨g, 0, none⟩)), (.pointer (some ⟨g, 1, none⟩)), v41, rfl, { hs with e40 := fun _ => rfl }, hw⟩
    | 13, _ =>
      have e40x := hs.e40 (haft 12 (by decide))
      subst e40x
      have e29x := hs.e29 (haft 1 (by decide))
      subst e29x
      exact i_val rfl (.pointer (some ⟨g, 1, none⟩)) w' (by rfl) (by go_simp) ⟨v28, (.int .i64 0), v30, v31, v32, v33, v34, v35, v36, v37, v38, v39, (.pointer (some ⟨g, 1, none⟩)), (.pointer (some ⟨g, 1, none⟩)), rfl, { hs with e41 := fun _ => rfl }, hw⟩
    | k + 14, h =>
      exfalso
      have h2 : k + 14 < 14 := h
      omega
  intro Lx ac w' hI hall
  obtain ⟨v28, v29, v30, v31, v32, v33, v34, v35, v36, v37, v38, v39, v40, v41, rfl, hs, hw⟩ := hI
  have e28y := hs.e28 (hall 0 (by decide))
  subst e28y
  have e29y := hs.e29 (hall 1 (by decide))
  subst e29y
  have e30y := hs.e30 (hall 2 (by decide))
  subst e30y
  have e31y := hs.e31 (hall 3 (by decide))
  subst e31y
  have e32y := hs.e32 (hall 4 (by decide))
  subst e32y
  have e33y := hs.e33 (hall 5 (by decide))
  subst e33y
  have e34y := hs.e34 (hall 6 (by decide))
  subst e34y
  have e35y := hs.e35 (hall 7 (by decide))
  subst e35y
  have e36y := hs.e36 (hall 8 (by decide))
  subst e36y
  have e39y := hs.e39 (hall 11 (by decide))
  subst e39y
  have e40y := hs.e40 (hall 12 (by decide))
  subst e40y
  have e41y := hs.e41 (hall 13 (by decide))
  subst e41y
  have HA := Lib.hid hw
  rw [hall 9 (by decide), hall 10 (by decide)] at HA
  clear hs hall hw
  have GR := Lib.hid HA.out.g
  have OW := Lib.hid (HA.out.pr rfl)
  obtain ⟨q', r', eu, -⟩ := OW.out.shape
  subst eu
  have Q1 := (KF.out w' GR.out).1
  have Q2 := (KF.out w' GR.out).2
  refine i_skip rfl (w'.setCell ⟨g, 1, none⟩ (.slice q' (a ++ [x]).length r')) (by rfl) (by go_simp) ?_
  have KN := Lib.hid (show LkR w B g _ _ true _ _ _ _ _ from HL.out.send0 HB.out GR.out OW.out (HA.out.pb rfl))
  clear HA GR OW Q1 Q2
  simp only [Sd0F, Act.put, List.getElem_toArray, List.getElem_cons_succ, List.getElem_cons_zero, List.setIfInBounds_toArray, List.set_cons_zero, List.set_cons_succ, Exit.then]
  go_wp2_with fail
  go_ret
  exact ⟨rfl, _, _, KN.out⟩
/-- The slots, while the region runs. -/
structure Sd1S (g : Nat) (q : Option Addr) (n c : Nat) (x : ByteArray) (f3 f4 f5 f6 f7 f8 f9 f10 f11 f12 f13 f14 f15 f16 f17 f18 f19 f20 f21 f22 f23 f24 f25 f26 f27 : Value) (L : Nat → Bool) (v28 v29 v30 v31 v32 v33 v34 v35 v36 v37 v38 v39 v40 v41 : Value) : Prop where
  e28 : L 0 = true → v28 = .pointer (some ⟨g, 0, none⟩)
  e29 : L 1 = true → v29 = .int .i64 1
  e30 : L 2 = true → v30 = .pointer (some ⟨g, 0, none⟩)
  e31 : L 3 = true → v31 = .int .i64 1
  e32 : L 4 = true → v32 = .pointer (some ⟨g, 0, none⟩)
  e33 : L 5 = true → v33 = .pointer (some ⟨g, 1, none⟩)
  e34 : L 6 = true → v34 = .pointer (some ⟨g, 2, none⟩)
  e35 : L 7 = true → v35 = .slice q n c
  e36 : L 8 = true → v36 = .string x
  e39 : L 11 = true → v39 = .pointer (some ⟨g, 0, none⟩)
  e40 : L 12 = true → v40 = .pointer (some ⟨g, 1, none⟩)
  e41 : L 13 = true → v41 = .pointer (some ⟨g, 2, none⟩)
abbrev Sd1F (g : Nat) (q : Option Addr) (n c : Nat) (x : ByteArray) (f3 f4 f5 f6 f7 f8 f9 f10 f11 f12 f13 f14 f15 f16 f17 f18 f19 f20 f21 f22 f23 f24 f25 f26 f27 : Value) (v28 v29 v30 v31 v32 v33 v34 v35 v36 v37 v38 v39 v40 v41 : Value) : Act := { tmps := #[.pointer (some ⟨g, 0, none⟩), .int .i64 1, .string x, f3, f4, f5, f6, f7, f8, f9, f10, f11, f12, f13, f14, f15, f16, f17, f18, f19, f20, f21, f22, f23, f24, f25, f26, f27, v28, v29, v30, v31, v32, v33, v34, v35, v36, v37, v38, v39, v40, v41], defers := [] }
def Sd1I (g : Nat) (q : Option Addr) (n c : Nat) (x : ByteArray) (f3 f4 f5 f6 f7 f8 f9 f10 f11 f12 f13 f14 f15 f16 f17 f18 f19 f20 f21 f22 f23 f24 f25 f26 f27 : Value) (w1 : World) (B : Nat) (l : List ByteArray) (L : Nat → Bool) (ac : Act) (w : World) : Prop :=
  ∃ v28 v29 v30 v31 v32 v33 v34 v35 v36 v37 v38 v39 v40 v41, ac = Sd1F g q n c x f3 f4 f5 f6 f7 f8 f9 f10 f11 f12 f13 f14 f15 f16 f17 f18 f19 f20 f21 f22 f23 f24 f25 f26 f27 v28 v29 v30 v31 v32 v33 v34 v35 v36 v37 v38 v39 v40 v41 ∧ Sd1S g q n c x f3 f4 f5 f6 f7 f8 f9 f10 f11 f12 f13 f14 f15 f16 f17 f18 f19 f20 f21 f22 f23 f24 f25 f26 f27 L v28 v29 v30 v31 v32 v33 v34 v35 v36 v37 v38 v39 v40 v41 ∧ ApW w1 B 9 1 stC (Value.slice q n c) l x (L 9) (L 10) v37 v38 w
set_option maxRecDepth 100000 in
set_option maxHeartbeats 8000000 in
theorem send_yes1 {w : World} {B g : Nat} {v0 v1 : Value} {a b : List ByteArray} (h : LkW w B g true v0 v1 a b) (hB : B ≤ w.heap.size) (x : ByteArray) (hn : b.length < 1000) : Calls Try.prog 10 #[.pointer (some ⟨g, 0, none⟩), .int .i64 1, .string x] w fun y w' => y = .returned (.bool true) ∧ ∃ u0 u1, LkR w B g v0 v1 true u0 u1 a (b ++ [x]) w' := by
  obtain ⟨q0, c0, rfl, -, -⟩ := h.o0.shape
  obtain ⟨q1, c1, rfl, -, -⟩ := h.o1.shape
  have ku : w.cell? ⟨g, 0, none⟩ = some (.bool true) := h.blk.cell 0
  have k1 : w.cell? ⟨g, 2, none⟩ = some (.slice q1 b.length c1) := h.blk.cell 2
  have hm : ¬ ((b.length : Int) = 1000) := by omega
  have HL := Lib.hid h
  have HB := Lib.hid hB
  have HLN := Lib.hid hn
  have KF := Lib.hid (show ∀ W, w.grownBy W (Value.slice q1 b.length c1).ownBlock → W.cell? ⟨g, 2, none⟩ = some (.slice q1 b.length c1) ∧ W.frozen? ⟨g, 2, none⟩ = false from fun W hW => by
    have q := h.blk.grown hW (fun e => h.n1 e.symm)
    exact ⟨q.cell 2, q.free 2⟩)
  clear h hB hn
  go_enter Try.func10, Try.ntmps10
  go_upto_region 3 with (go_at_call 13; refine (has_any g 1 w).mono ?_; rintro y w ⟨rfl, rfl⟩)
  clear ku k1 hm
  refine wp_region_lastW 14 (I := Sd1I g q1 b.length c1 x _ _ _ _ _ _ _ _ _ _ _ _ _ _ _ _ _ _ _ _ _ _ _ _ _ w B b) (by kernel_rfl) (by kernel_rfl) (by kernel_rfl) ⟨_, _, _, _, _, _, _, _, _, _, _, _, _, _, rfl, ⟨(fun h => Bool.noConfusion h), (fun h => Bool.noConfusion h), (fun h => Bool.noConfusion h), (fun h => Bool.noConfusion h), (fun h => Bool.noConfusion h), (fun h => Bool.noConfusion h), (fun h => Bool.noConfusion h), (fun h => Bool.noConfusion h), (fun h => Bool.noConfusion h), (fun h => Bool.noConfusion h), (fun h => Bool.noConfusion h), (fun h => Bool.noConfusion h)⟩, ApW.start HL.out.o1 HB.out⟩ ?_ ?_
  · intro o ho Lx ac w' hI hL haft
    obtain ⟨v28, v29, v30, v31, v32, v33, v34, v35, v36, v37, v38, v39, v40, v41, rfl, hs, hw⟩ := hI
    match o, ho with
    | 0, _ =>
      exact i_val rfl (.pointer (some ⟨g, 0, none⟩)) w' (by rfl) (by go_simp) ⟨(.pointer (some ⟨g, 0, none⟩)), v29, v30, v31, v32, v33, v34, v35, v36, v37, v38, v39, v40, v41, rfl, { hs with e28 := fun _ => rfl }, hw⟩
    | 1, _ =>
      exact i_val rfl (.int .i64 1) w' (by rfl) (by go_simp) ⟨v28, (.int .i64 1), v30, v31, v32, v33, v34, v35, v36, v37, v38, v39, v40, v41, rfl, { hs with e29 := fun _ => rfl }, hw⟩
    | 2, _ =>
      exact i_val rfl (.pointer (some ⟨g, 0, none⟩)) w' (by rfl) (by go_simp) ⟨v28, v29, (.pointer (some ⟨g, 0, none⟩)), v31, v32, v33, v34, v35, v36, v37, v38, v39, v40, v41, rfl, { hs with e30 := fun _ => rfl }, hw⟩
    | 3, _ =>
      exact i_val rfl (.int .i64 1) w' (by rfl) (by go_simp) ⟨v28, v29, v30, (.int .i64 1), v32, v33, v34, v35, v36, v37, v38, v39, v40, v41, rfl, { hs with e31 := fun _ => rfl }, hw⟩
    | 4, _ =>
      have e30x := hs.e30 (haft 2 (by decide))
      subst e30x
      exact i_val rfl (.pointer (some ⟨g, 0, none⟩)) w' (by rfl) (by go_simp) ⟨v28, v29, (.pointer (some ⟨g, 0, none⟩)), v31, (.pointer (some ⟨g, 0, none⟩)), v33, v34, v35, v36, v37, v38, v39, v40, v41, rfl, { hs with e32 := fun _ => rfl }, hw⟩
    | 5, _ =>
      have e32x := hs.e32 (haft 4 (by decide))
      subst e32x
      exact i_val rfl (.pointer (some ⟨g, 1, none⟩)) w' (by rfl) (by go_simp) ⟨v28, v29, v30, v31, (.pointer (some ⟨g, 0, none⟩)), (.pointer (some ⟨g, 1, none⟩)), v34, v35, v36, v37, v38, v39, v40, v41, rfl, { hs with e33 := fun _ => rfl }, hw⟩
    | 6, _ =>
      have e33x := hs.e33 (haft 5 (by decide))
      subst e33x
      have e31x := hs.e31 (haft 3 (by decide))
      subst e31x
      exact i_val rfl (.pointer (some ⟨g, 2, none⟩)) w' (by rfl) (by go_simp) ⟨v28, v29, v30, (.int .i64 1), v32, (.pointer (some ⟨g, 1, none⟩)), (.pointer (some ⟨g, 2, none⟩)), v35, v36, v37, v38, v39, v40, v41, rfl, { hs with e34 := fun _ => rfl }, hw⟩
    | 7, _ =>
      have e34x := hs.e34 (haft 6 (by decide))
      subst e34x
      exact i_val rfl (.slice q1 b.length c1) w' (by rfl) (by have q1 := (KF.out _ hw.g).1; go_simp) ⟨v28, v29, v30, v31, v32, v33, (.pointer (some ⟨g, 2, none⟩)), (.slice q1 b.length c1), v36, v37, v38, v39, v40, v41, rfl, { hs with e35 := fun _ => rfl }, hw⟩
    | 8, _ =>
      exact i_val rfl (.string x) w' (by rfl) (by go_simp) ⟨v28, v29, v30, v31, v32, v33, v34, v35, (.string x), v37, v38, v39, v40, v41, rfl, { hs with e36 := fun _ => rfl }, hw⟩
    | 9, _ =>
      have e36x := hs.e36 (haft 8 (by decide))
      subst e36x
      exact i_val rfl (.slice (some ⟨w'.heap.size, 0, none⟩) 1 1) (w'.alloc (.cells (#[.string x]) 9)) (by rfl) (run_bs1 26 (.tmp 36) rfl (.string x) _ rfl (one_st x w')) ⟨v28, v29, v30, v31, v32, v33, v34, v35, (.string x), (.slice (some ⟨w'.heap.size, 0, none⟩) 1 1), v38, v39, v40, v41, rfl, { hs with }, hw.made stT hL _ rfl⟩
    | 10, _ =>
      have e35x := hs.e35 (haft 7 (by decide))
      subst e35x
      obtain ⟨u, w2, hrun, hw2⟩ := hw.app stT (haft 9 (by decide)) hL (by have := HLN.out; omega) 26
      have hmk := haft 9 (by decide)
      exact i_wp rfl (by rfl) (wp_append_lst _ _ 26 rfl u w2 hrun ⟨v28, v29, v30, v31, v32, v33, v34, (.slice q1 b.length c1), v36, v37, u, v39, v40, v41, rfl, { hs with }, by rw [show upd Lx 10 9 = true from hmk]; exact hw2⟩)
    | 11, _ =>
      have e28x := hs.e28 (haft 0 (by decide))
      subst e28x
      exact i_val rfl (.pointer (some ⟨g, 0, none⟩)) w' (by rfl) (by go_simp) ⟨(.pointer (some ⟨g, 0, none⟩)), v29, v30, v31, v32, v33, v34, v35, v36, v37, v38, (.pointer (some ⟨g, 0, none⟩)), v40, v41, rfl, { hs with e39 := fun _ => rfl }, hw⟩
    | 12, _ =>
      have e39x := hs.e39 (haft 11 (by decide))
      subst e39x
      exact i_val rfl (.pointer (some ⟨g, 1, none⟩)) w' (by rfl) (by go_simp) ⟨v28, v29, v30, v31, v32, v33, v34, v35, v36, v37, v38, (.pointer (some ⟨g, 0, none⟩)), (.pointer (some ⟨g, 1, none⟩)), v41, rfl, { hs with e40 := fun _ => rfl }, hw⟩
    | 13, _ =>
      have e40x := hs.e40 (haft 12 (by decide))
      subst e40x
      have e29x := hs.e29 (haft 1 (by decide))
      subst e29x
      exact i_val rfl (.pointer (some ⟨g, 2, none⟩)) w' (by rfl) (by go_simp) ⟨v28, (.int .i64 1), v30, v31, v32, v33, v34, v35, v36, v37, v38, v39, (.pointer (some ⟨g, 1, none⟩)), (.pointer (some ⟨g, 2, none⟩)), rfl, { hs with e41 := fun _ => rfl }, hw⟩
    | k + 14, h =>
      exfalso
      have h2 : k + 14 < 14 := h
      omega
  intro Lx ac w' hI hall
  obtain ⟨v28, v29, v30, v31, v32, v33, v34, v35, v36, v37, v38, v39, v40, v41, rfl, hs, hw⟩ := hI
  have e28y := hs.e28 (hall 0 (by decide))
  subst e28y
  have e29y := hs.e29 (hall 1 (by decide))
  subst e29y
  have e30y := hs.e30 (hall 2 (by decide))
  subst e30y
  have e31y := hs.e31 (hall 3 (by decide))
  subst e31y
  have e32y := hs.e32 (hall 4 (by decide))
  subst e32y
  have e33y := hs.e33 (hall 5 (by decide))
  subst e33y
  have e34y := hs.e34 (hall 6 (by decide))
  subst e34y
  have e35y := hs.e35 (hall 7 (by decide))
  subst e35y
  have e36y := hs.e36 (hall 8 (by decide))
  subst e36y
  have e39y := hs.e39 (hall 11 (by decide))
  subst e39y
  have e40y := hs.e40 (hall 12 (by decide))
  subst e40y
  have e41y := hs.e41 (hall 13 (by decide))
  subst e41y
  have HA := Lib.hid hw
  rw [hall 9 (by decide), hall 10 (by decide)] at HA
  clear hs hall hw
  have GR := Lib.hid HA.out.g
  have OW := Lib.hid (HA.out.pr rfl)
  obtain ⟨q', r', eu, -⟩ := OW.out.shape
  subst eu
  have Q1 := (KF.out w' GR.out).1
  have Q2 := (KF.out w' GR.out).2
  refine i_skip rfl (w'.setCell ⟨g, 2, none⟩ (.slice q' (b ++ [x]).length r')) (by rfl) (by go_simp) ?_
  have KN := Lib.hid (show LkR w B g _ _ true _ _ _ _ _ from HL.out.send1 HB.out GR.out OW.out (HA.out.pb rfl))
  clear HA GR OW Q1 Q2
  simp only [Sd1F, Act.put, List.getElem_toArray, List.getElem_cons_succ, List.getElem_cons_zero, List.setIfInBounds_toArray, List.set_cons_zero, List.set_cons_succ, Exit.then]
  go_wp2_with fail
  go_ret
  exact ⟨rfl, _, _, KN.out⟩
end Go.Proofs.Ytiophmmcennjnaa
