/- A link: Cut, Come, Lose. -/
import Derived.Test.YtiophmmcennjnaaLk2
namespace Go.Proofs.Ytiophmmcennjnaa
open Go.RowKit
attribute [local irreducible] wpQuiet wpList
set_option linter.unusedSimpArgs false
set_option linter.unusedVariables false

theorem LkW.cutU {w : World} {B g : Nat} {up : Bool} {v0 v1 : Value} {a b : List ByteArray} (h : LkW w B g up v0 v1 a b) (u : Bool) : LkR w B g v0 v1 u v0 v1 a b (w.setCell ⟨g, 0, none⟩ (.bool u)) :=
  ⟨⟨h.blk.set 0 _, h.o0.setCell h.n0 _, h.o1.setCell h.n1 _, h.n0, h.n1, h.nd, h.low⟩, (Mv.setCell w g 0 _).mono (fun k q => .inl q), fun k q => .inl q⟩
theorem LkW.cutD {w : World} {B g : Nat} {up : Bool} {v0 v1 : Value} {a b : List ByteArray} (h : LkW w B g up v0 v1 a b) (u : Bool) : LkR w B g v0 v1 u (.slice none 0 0) (.slice none 0 0) [] [] ((w.setCell ⟨g, 0, none⟩ (.bool u)).setCells g 1 [.slice none 0 0, .slice none 0 0]) :=
  ⟨⟨Blk.setCells [.slice none 0 0, .slice none 0 0] 1 _ _ (h.blk.set 0 (.bool u)), Own.nil _ _ _ _ _, Own.nil _ _ _ _ _, (fun q => by cases q), (fun q => by cases q), (fun k q => by cases q), h.low⟩,
    ((Mv.setCell w g 0 _).mono (fun k q => .inl q)).trans (Mv.setCells g _ 1 _) (fun k _ q => .inl q), fun k q => by rcases q with q | q | q; exact .inl (.inl q); cases q; cases q⟩
theorem info27 : (Try.prog.info? 27).map (·.size) = some 2 := by kernel_rfl
theorem cut_nil (u : Bool) (w : World) : Calls Try.prog 9 #[.pointer none, .bool u] w fun y w' => y = .returned (.bool false) ∧ w' = w := by
  go_enter Try.func9, Try.ntmps9
  go_wp2
  go_ret
  exact ⟨rfl, rfl⟩
set_option maxRecDepth 100000 in
set_option maxHeartbeats 8000000 in
theorem cut_any {w : World} {B g : Nat} {up : Bool} {v0 v1 : Value} {a b : List ByteArray} (h : LkW w B g up v0 v1 a b) (u : Bool) : Calls Try.prog 9 #[.pointer (some ⟨g, 0, none⟩), .bool u] w fun y w' => y = .returned (.bool (u != up)) ∧ ∃ u0 u1, LkR w B g v0 v1 u u0 u1 (if u then a else []) (if u then b else []) w' := by
  have ku : w.cell? ⟨g, 0, none⟩ = some (.bool up) := h.blk.cell 0
  have kf : w.frozen? ⟨g, 0, none⟩ = false := h.blk.free 0
  have HL := Lib.hid h
  cases u with
  | true =>
    clear h
    go_enter Try.func9, Try.ntmps9
    go_wp2
    go_ret
    exact ⟨by cases up <;> rfl, _, _, HL.out.cutU true⟩
  | false =>
    have HT := Lib.hid (show (w.setCell ⟨g, 0, none⟩ (.bool false)).there g 1 2 from (h.blk.set 0 (.bool false)).thereN 1 2 (by simp))
    clear h
    go_enter Try.func9, Try.ntmps9
    go_upto_region 6 with fail
    refine wp_region_lit ?_
    refine wv (.pointer (some ⟨g, 0, none⟩)) ?_; (try simp only [Act.put, gA, gS, gZ, sA, sZ, sS])
    refine wv (.agg #[.slice none 0 0, .slice none 0 0]) ?_ (hrun := run_build_of _ [] rfl [] _ rfl (by kernel_rfl)); (try simp only [Act.put, gA, gS, gZ, sA, sZ, sS])
    refine wv (.pointer (some ⟨g, 0, none⟩)) ?_; (try simp only [Act.put, gA, gS, gZ, sA, sZ, sS])
    refine wv (.pointer (some ⟨g, 1, none⟩)) ?_; (try simp only [Act.put, gA, gS, gZ, sA, sZ, sS])
    refine wpList_store_mid rfl 27 _ _ rfl g 1 #[.slice none 0 0, .slice none 0 0] rfl rfl HT.out info27 (by kernel_rfl) ?_; (try simp only [Act.put, gA, gS, gZ, sA, sZ, sS])
    refine wpList_nil ?_
    go_wp2_with fail
    go_ret
    exact ⟨by cases up <;> rfl, _, _, HL.out.cutD false⟩
theorem cells_st (l : List ByteArray) : cellsL stC l = l.map .string := by induction l with | nil => rfl | cons x l ih => rw [cellsL_cons, ih]; rfl
/-- A list whose first goes: what lies in its row. -/
theorem own_come {w : World} {B G c : Nat} {x : ByteArray} {r : List ByteArray} (h : Own w B 9 1 stC (.slice (some ⟨G, 0, none⟩) (r.length + 1) c) (x :: r)) :
    ∃ cur : Array Value, w.heap[G]? = some (.cells cur 9) ∧ cur.size = c ∧ r.length + 1 ≤ c ∧ w.cell? ⟨G, 0, none⟩ = some (.string x) ∧ (∀ (j : Nat) (v : Value), (cellsL stC r)[j]? = some v → w.cell? ((⟨G, 1, none⟩ : Addr).add j) = some v) ∧
      ∀ w1 : World, w1 = w.setRow G (List.take 0 cur.toList ++ (cellsL stC r ++ List.drop (0 + (cellsL stC r).length) cur.toList)).toArray → Own (w1.setCell ⟨G, r.length, none⟩ (.string ⟨#[]⟩)) B 9 1 stC (.slice (some ⟨G, 0, none⟩) r.length c) r ∧
        (∃ u, w1.cell? ⟨G, r.length, none⟩ = some u) ∧ w1.frozen? ⟨G, r.length, none⟩ = false := by
  have hl := cellsL_len stC_len r
  rw [Nat.mul_one] at hl
  have hat := fun i j y hx hj => h.at stC_len i j y hx hj
  rcases h.2 with ⟨q, -⟩ | ⟨g, cap, cur, q, h2, h3, h4, h5, h6, h7⟩
  · cases q
  · injection q with q1 _ q3
    injection q1 with q1
    injection q1 with q1
    subst q1 q3
    rw [Nat.mul_one] at h6
    have hlc : (x :: r).length = r.length + 1 := rfl
    have hct : cur.toList.length = cur.size := Array.length_toList
    refine ⟨cur, h3, h6, h4, ?_, fun j v hv => ?_, ?_⟩
    · have := hat 0 0 x rfl (by decide)
      simpa [stC] using this
    · rw [cells_st, List.getElem?_map] at hv
      obtain ⟨y, hy, rfl⟩ := Option.map_eq_some_iff.1 hv
      have := hat (j + 1) 0 y (by simpa using hy) (by decide)
      rw [Nat.mul_one, Nat.add_zero] at this
      rw [add_none, Nat.add_comm, this]
      rfl
    · rintro w1 rfl
      have hk : Blk w G cur 9 := h3
      obtain ⟨R, hR⟩ : ∃ R, R = (List.take 0 cur.toList ++ (cellsL stC r ++ List.drop (0 + (cellsL stC r).length) cur.toList)).toArray := ⟨_, rfl⟩
      rw [← hR]
      have hRl : R.toList = cellsL stC r ++ List.drop r.length cur.toList := by rw [hR]; simp [hl]
      have hRs : R.size = cur.size := by rw [← Array.length_toList, hRl, List.length_append, hl, List.length_drop]; omega
      have hk1 : Blk (w.setRow G R) G R 9 := hk.row R
      refine ⟨⟨by rw [hl, Nat.mul_one], .inr ⟨G, c, R.setIfInBounds r.length (.string ⟨#[]⟩), rfl, h2, hk1.set r.length _, by omega, h5, by rw [Array.size_setIfInBounds, hRs, h6, Nat.mul_one], ?_⟩⟩, ⟨R[r.length]'(by omega), ?_⟩, hk1.free _⟩
      · rw [Nat.mul_one, Array.toList_setIfInBounds, hRl, List.take_set_of_le (Nat.le_refl _), List.take_append_of_le_length (by omega), List.take_of_length_le (by omega)]
      · rw [hk1.cell, Array.getElem?_eq_getElem (by omega)]
theorem LkW.come0 {w w1 : World} {B g G c : Nat} {up : Bool} {v1 : Value} {b : List ByteArray} {x : ByteArray} {r : List ByteArray} (h : LkW w B g up (.slice (some ⟨G, 0, none⟩) (r.length + 1) c) v1 (x :: r) b) (m : Mv (fun k => k = G) w w1) (ho : Own w1 B 9 1 stC (.slice (some ⟨G, 0, none⟩) r.length c) r) :
    LkR w B g (.slice (some ⟨G, 0, none⟩) (r.length + 1) c) v1 up (.slice (some ⟨G, 0, none⟩) r.length c) v1 r b (w1.setCell ⟨g, 1, none⟩ (.slice (some ⟨G, 0, none⟩) r.length c)) := by
  have hGg : g ≠ G := fun q => h.n0 (by rw [q]; rfl)
  have kb : Blk w1 g #[.bool up, (.slice (some ⟨G, 0, none⟩) (r.length + 1) c), v1] 40 := h.blk.fr m hGg
  refine ⟨⟨kb.set 1 _, ?_, ?_, h.n0, h.n1, h.nd, h.low⟩, ?_, fun k q => .inl q⟩
  · exact ho.setCell (a := ⟨g, 1, none⟩) (fun q => h.n0 q) _
  · exact (h.o1.fr m (fun k q e => h.nd G rfl (by rw [← e]; exact q))).setCell h.n1 _
  · exact (m.mono (fun k q => .inr (.inl (by rw [q]; rfl)))).trans (Mv.setCell w1 g 1 _) (fun k _ q => .inl q)
/-- The slots, while the region runs. -/
structure Cm0S (g G n c : Nat) (f2 f3 f4 f5 f7 f9 f10 f11 f12 f13 f14 f15 f16 f17 f18 f19 f20 f21 f22 f23 f24 f25 f26 f27 f28 f37 : Value) (L : Nat → Bool) (v29 v30 v31 v32 v33 v34 v35 v36 : Value) : Prop where
  e29 : L 0 = true → v29 = .pointer (some ⟨g, 0, none⟩)
  e30 : L 1 = true → v30 = .int .i64 0
  e31 : L 2 = true → v31 = .slice (some ⟨G, 0, none⟩) (n + 1) c
  e32 : L 3 = true → v32 = .int .i64 (n : Nat)
  e33 : L 4 = true → v33 = .slice (some ⟨G, 0, none⟩) n c
  e34 : L 5 = true → v34 = .pointer (some ⟨g, 0, none⟩)
  e35 : L 6 = true → v35 = .pointer (some ⟨g, 1, none⟩)
  e36 : L 7 = true → v36 = .pointer (some ⟨g, 1, none⟩)
abbrev Cm0F (g G n c : Nat) (f2 f3 f4 f5 f7 f9 f10 f11 f12 f13 f14 f15 f16 f17 f18 f19 f20 f21 f22 f23 f24 f25 f26 f27 f28 f37 : Value) (v29 v30 v31 v32 v33 v34 v35 v36 : Value) : Act := { tmps := #[.pointer (some ⟨g, 0, none⟩), .int .i64 0, f2, f3, f4, f5, .slice (some ⟨G, 0, none⟩) (n + 1) c, f7, .int .i64 (n : Nat), f9, f10, f11, f12, f13, f14, f15, f16, f17, f18, f19, f20, f21, f22, f23, f24, f25, f26, f27, f28, v29, v30, v31, v32, v33, v34, v35, v36, f37], defers := [] }
def Cm0I (g G n c : Nat) (f2 f3 f4 f5 f7 f9 f10 f11 f12 f13 f14 f15 f16 f17 f18 f19 f20 f21 f22 f23 f24 f25 f26 f27 f28 f37 : Value) (L : Nat → Bool) (ac : Act) : Prop :=
  ∃ v29 v30 v31 v32 v33 v34 v35 v36, ac = Cm0F g G n c f2 f3 f4 f5 f7 f9 f10 f11 f12 f13 f14 f15 f16 f17 f18 f19 f20 f21 f22 f23 f24 f25 f26 f27 f28 f37 v29 v30 v31 v32 v33 v34 v35 v36 ∧ Cm0S g G n c f2 f3 f4 f5 f7 f9 f10 f11 f12 f13 f14 f15 f16 f17 f18 f19 f20 f21 f22 f23 f24 f25 f26 f27 f28 f37 L v29 v30 v31 v32 v33 v34 v35 v36
set_option maxRecDepth 100000 in
set_option maxHeartbeats 8000000 in
theorem come_yes0 {w : World} {B g : Nat} {up : Bool} {v0 v1 : Value} {b : List ByteArray} {x : ByteArray} {r : List ByteArray} (h : LkW w B g up v0 v1 (x :: r) b) (hr : r.length < 1000) : Calls Try.prog 8 #[.pointer (some ⟨g, 0, none⟩), .int .i64 0] w fun y w' => y = .returned (.tuple #[.string x, .bool true]) ∧ ∃ u0 u1, LkR w B g v0 v1 up u0 u1 r b w' := by
  rcases h.o0.cases with ⟨-, q⟩ | ⟨G, c, q, hBG, hG, -, hmx⟩
  · cases q
  rw [List.length_cons] at q
  subst q
  obtain ⟨cur, t1, t2, t3, t4, t5, t6⟩ := own_come h.o0
  obtain ⟨n, hn⟩ : ∃ n, n = r.length := ⟨_, rfl⟩
  have hl := cellsL_len stC_len r
  rw [Nat.mul_one, ← hn] at hl
  have HU := Lib.hid (under_any h 0)
  have k0 : w.cell? ⟨g, 1, none⟩ = some (.slice (some ⟨G, 0, none⟩) (r.length + 1) c) := h.blk.cell 1
  rw [← hn] at k0
  have HUN := Lib.hid (show unN 0 (x :: r) b = n + 1 by rw [hn]; rfl)
  have HL := Lib.hid h
  have T1 := Lib.hid t1
  have T5 := Lib.hid t5
  have T6 := Lib.hid t6
  have TS := Lib.hid t2
  have HN := Lib.hid hn
  have HCL := Lib.hid hl
  have i1 : n + 1 ≤ c := by omega
  have i2 : (n : Int) < 1000 := by omega
  have i3 : (c : Int) ≤ 9223372036854775807 := by unfold maxLen at hmx; omega
  have i4 : ¬ ((n : Int) + 1 = 0) := by omega
  have i5 : (0 : Int) ≤ (n : Int) := by omega
  have i6 : (n : Int) + 1 ≤ (c : Int) := by omega
  obtain ⟨R, hR⟩ : ∃ R, R = (List.take 0 cur.toList ++ (cellsL stC r ++ List.drop (0 + (cellsL stC r).length) cur.toList)).toArray := ⟨_, rfl⟩
  have RES := t6 (w.setRow G R) (by rw [hR])
  have HR := Lib.hid hR
  obtain ⟨p1, ⟨u, p2⟩, p3⟩ := RES
  rw [← hn] at p1 p2 p3
  have P1 := Lib.hid p1
  have P2 := Lib.hid p2
  have P3 := Lib.hid p3
  have hGg : g ≠ G := fun q => h.n0 (by rw [q]; rfl)
  have MV := Lib.hid (show Mv (fun k => k = G) w ((w.setRow G R).setCell ⟨G, n, none⟩ (.string ⟨#[]⟩)) from (Mv.setRow w G R).trans (Mv.setCell _ G n _) (fun k _ q => q))
  have KF0 := Lib.hid (show Blk ((w.setRow G R).setCell ⟨G, n, none⟩ (.string ⟨#[]⟩)) g _ 40 from h.blk.fr MV.out hGg)
  clear h t1 t2 t3 t5 t6 hR p1 p2 p3 hBG hG hmx hr hl hn
  go_enter Try.func8, Try.ntmps8
  go_upto_region 4 with (go_at_call 12; refine HU.out.mono ?_; rw [HUN.out]; rintro y w ⟨rfl, rfl⟩)
  clear k0
  refine wp_region_lit ?_
  refine wv (.slice (some ⟨G, 0, none⟩) (n + 1) c) ?_; (try simp only [Act.put, gA, gS, gZ, sA, sZ, sS])
  refine wv (.pointer (some ⟨G, 0, none⟩)) ?_; (try simp only [Act.put, gA, gS, gZ, sA, sZ, sS])
  refine wv (.string x) ?_; (try simp only [Act.put, gA, gS, gZ, sA, sZ, sS])
  refine wv (.string x) ?_; (try simp only [Act.put, gA, gS, gZ, sA, sZ, sS])
  refine wpList_nil ?_
  go_upto_region 5 with fail
  clear t4
  refine wp_region_lit ?_
  refine wv (.slice (some ⟨G, 0, none⟩) (n + 1) c) ?_; (try simp only [Act.put, gA, gS, gZ, sA, sZ, sS])
  refine wv (.slice (some ⟨G, 0, none⟩) (n + 1) c) ?_; (try simp only [Act.put, gA, gS, gZ, sA, sZ, sS])
  have KF := Lib.hid (show ∀ W, Below ((w.setRow G R).setCell ⟨G, n, none⟩ (.string ⟨#[]⟩)).heap.size ((w.setRow G R).setCell ⟨G, n, none⟩ (.string ⟨#[]⟩)) W → W.cell? ⟨g, 1, none⟩ = some (.slice (some ⟨G, 0, none⟩) (n + 1) c) ∧ W.frozen? ⟨g, 1, none⟩ = false from fun W hb => by
    have q := KF0.out.below hb KF0.out.lt
    rw [HN.out]
    exact ⟨q.cell 1, q.free 1⟩)
  have HRES := Lib.hid (show ∀ W, Below ((w.setRow G R).setCell ⟨G, n, none⟩ (.string ⟨#[]⟩)).heap.size ((w.setRow G R).setCell ⟨G, n, none⟩ (.string ⟨#[]⟩)) W → LkR w B g (.slice (some ⟨G, 0, none⟩) (n + 1) c) v1 up (.slice (some ⟨G, 0, none⟩) n c) v1 r b (W.setCell ⟨g, 1, none⟩ (.slice (some ⟨G, 0, none⟩) n c)) from fun W hb => by
    have m := MV.out.trans (Mv.of_below (F := fun k => k = G) hb) (fun k _ q => q)
    have q := Own.next P1.out hb
    have hl := HL.out
    obtain rfl := HN.out
    exact hl.come0 m q)
  by_cases hc1 : c = 1
  · have hn0 : n = 0 := by omega
    have HN0 := Lib.hid hn0
    refine wv (.slice (some ⟨G, 0, none⟩) n (c - 1)) ?_ (hrun := by go_simp <;> (intro hz; exfalso; omega)); (try simp only [Act.put, gA, gS, gZ, sA, sZ, sS])
    refine wpList_copy_own rfl _ _ 26 26 rfl 9 (by kernel_rfl) (by kernel_rfl) G 0 (n + 1) c ⟨G, 0, none⟩ n (c - 1) rfl rfl cur 9 T1.out (cellsL stC r) (by rw [HCL.out]; exact (Nat.min_eq_left (Nat.le_succ n)).symm) (fun j v hv => by have q1 := (List.getElem?_eq_some_iff.1 hv).1; have q2 := HCL.out; have q3 := HN0.out; omega) (by have q1 := HCL.out; have q2 := TS.out; omega) (cellsL_one_cell stC_one r) ?_; (try simp only [Act.put, gA, gS, gZ, sA, sZ, sS])
    rw [← HR.out, HCL.out]
    clear hn0
    refine wv (.int .i64 (n : Nat)) ?_; (try simp only [Act.put, gA, gS, gZ, sA, sZ, sS])
    refine wpList_nil ?_
    go_upto_region 6 with fail
    refine wp_region_lit ?_
    refine wv (.slice (some ⟨G, 0, none⟩) (n + 1) c) ?_; (try simp only [Act.put, gA, gS, gZ, sA, sZ, sS])
    refine wv (.int .i64 (n : Nat)) ?_; (try simp only [Act.put, gA, gS, gZ, sA, sZ, sS])
    refine wv (.pointer (some ⟨G, n, none⟩)) ?_ (hrun := by go_simp <;> (intro hz; exfalso; omega)); (try simp only [Act.put, gA, gS, gZ, sA, sZ, sS])
    refine BigFrame.wpList_want (by rfl) fun K' hK => wp_store_cell 9 _ _ rfl ⟨G, n, none⟩ (.string ⟨#[]⟩) rfl rfl (by have q2 := P2.out; have q3 := P3.out; go_simp) (hK _ _ ?_); (try simp only [Act.put, gA, gS, gZ, sA, sZ, sS])
    refine wpList_nil ?_
    go_upto_region 7 with fail
    refine wp_region_last 8 (I := Cm0I g G n c _ _ _ _ _ _ _ _ _ _ _ _ _ _ _ _ _ _ _ _ _ _ _ _ _ _) (by kernel_rfl) (by kernel_rfl) (by kernel_rfl) ⟨_, _, _, _, _, _, _, _, rfl, ⟨(fun h => Bool.noConfusion h), (fun h => Bool.noConfusion h), (fun h => Bool.noConfusion h), (fun h => Bool.noConfusion h), (fun h => Bool.noConfusion h), (fun h => Bool.noConfusion h), (fun h => Bool.noConfusion h), (fun h => Bool.noConfusion h)⟩⟩ ?_
    intro w5 hb5
    have Q1 := (KF.out w5 hb5).1
    have Q2 := (KF.out w5 hb5).2
    refine ⟨?_, ?_⟩
    · intro i hi Lx ac hI hL haft
      obtain ⟨v29, v30, v31, v32, v33, v34, v35, v36, rfl, hs⟩ := hI
      match i, hi with
      | 0, _ =>
        exact i_val rfl (.pointer (some ⟨g, 0, none⟩)) w5 (by rfl) (by go_simp) ⟨⟨(.pointer (some ⟨g, 0, none⟩)), v30, v31, v32, v33, v34, v35, v36, rfl, { hs with e29 := fun _ => rfl }⟩, rfl⟩
      | 1, _ =>
        exact i_val rfl (.int .i64 0) w5 (by rfl) (by go_simp) ⟨⟨v29, (.int .i64 0), v31, v32, v33, v34, v35, v36, rfl, { hs with e30 := fun _ => rfl }⟩, rfl⟩
      | 2, _ =>
        exact i_val rfl (.slice (some ⟨G, 0, none⟩) (n + 1) c) w5 (by rfl) (by go_simp) ⟨⟨v29, v30, (.slice (some ⟨G, 0, none⟩) (n + 1) c), v32, v33, v34, v35, v36, rfl, { hs with e31 := fun _ => rfl }⟩, rfl⟩
      | 3, _ =>
        exact i_val rfl (.int .i64 (n : Nat)) w5 (by rfl) (by go_simp) ⟨⟨v29, v30, v31, (.int .i64 (n : Nat)), v33, v34, v35, v36, rfl, { hs with e32 := fun _ => rfl }⟩, rfl⟩
      | 4, _ =>
        have e31x := hs.e31 (haft 2 (by decide))
        subst e31x
        have e32x := hs.e32 (haft 3 (by decide))
        subst e32x
        exact i_val rfl (.slice (some ⟨G, 0, none⟩) n c) w5 (by rfl) (by go_simp <;> (intro hz; exfalso; omega)) ⟨⟨v29, v30, (.slice (some ⟨G, 0, none⟩) (n + 1) c), (.int .i64 (n : Nat)), (.slice (some ⟨G, 0, none⟩) n c), v34, v35, v36, rfl, { hs with e33 := fun _ => rfl }⟩, rfl⟩
      | 5, _ =>
        have e29x := hs.e29 (haft 0 (by decide))
        subst e29x
        exact i_val rfl (.pointer (some ⟨g, 0, none⟩)) w5 (by rfl) (by go_simp) ⟨⟨(.pointer (some ⟨g, 0, none⟩)), v30, v31, v32, v33, (.pointer (some ⟨g, 0, none⟩)), v35, v36, rfl, { hs with e34 := fun _ => rfl }⟩, rfl⟩
      | 6, _ =>
        have e34x := hs.e34 (haft 5 (by decide))
        subst e34x
        exact i_val rfl (.pointer (some ⟨g, 1, none⟩)) w5 (by rfl) (by go_simp) ⟨⟨v29, v30, v31, v32, v33, (.pointer (some ⟨g, 0, none⟩)), (.pointer (some ⟨g, 1, none⟩)), v36, rfl, { hs with e35 := fun _ => rfl }⟩, rfl⟩
      | 7, _ =>
        have e35x := hs.e35 (haft 6 (by decide))
        subst e35x
        have e30x := hs.e30 (haft 1 (by decide))
        subst e30x
        exact i_val rfl (.pointer (some ⟨g, 1, none⟩)) w5 (by rfl) (by go_simp) ⟨⟨v29, (.int .i64 0), v31, v32, v33, v34, (.pointer (some ⟨g, 1, none⟩)), (.pointer (some ⟨g, 1, none⟩)), rfl, { hs with e36 := fun _ => rfl }⟩, rfl⟩
      | k + 8, h =>
        exfalso
        have h2 : k + 8 < 8 := h
        omega
    intro Lx ac hI hall
    obtain ⟨v29, v30, v31, v32, v33, v34, v35, v36, rfl, hs⟩ := hI
    have e29y := hs.e29 (hall 0 (by decide))
    subst e29y
    have e30y := hs.e30 (hall 1 (by decide))
    subst e30y
    have e31y := hs.e31 (hall 2 (by decide))
    subst e31y
    have e32y := hs.e32 (hall 3 (by decide))
    subst e32y
    have e33y := hs.e33 (hall 4 (by decide))
    subst e33y
    have e34y := hs.e34 (hall 5 (by decide))
    subst e34y
    have e35y := hs.e35 (hall 6 (by decide))
    subst e35y
    have e36y := hs.e36 (hall 7 (by decide))
    subst e36y
    clear hs hall
    refine i_skip rfl (w5.setCell ⟨g, 1, none⟩ (.slice (some ⟨G, 0, none⟩) n c)) (by rfl) (by go_simp) ?_
    have KN := Lib.hid (HRES.out w5 hb5)
    clear hb5
    simp only [Cm0F, Act.put, List.getElem_toArray, List.getElem_cons_succ, List.getElem_cons_zero, List.setIfInBounds_toArray, List.set_cons_zero, List.set_cons_succ, Exit.then]
    go_wp2_with fail
    go_ret2
    exact ⟨rfl, _, _, by rw [← HN.out]; exact KN.out⟩
  · refine wv (.slice (some ⟨G, 1, none⟩) n (c - 1)) ?_ (hrun := by go_simp <;> (intro hz; exfalso; omega)); (try simp only [Act.put, gA, gS, gZ, sA, sZ, sS])
    refine wpList_copy_own rfl _ _ 26 26 rfl 9 (by kernel_rfl) (by kernel_rfl) G 0 (n + 1) c ⟨G, 1, none⟩ n (c - 1) rfl rfl cur 9 T1.out (cellsL stC r) (by rw [HCL.out]; exact (Nat.min_eq_left (Nat.le_succ n)).symm) T5.out (by have q1 := HCL.out; have q2 := TS.out; omega) (cellsL_one_cell stC_one r) ?_; (try simp only [Act.put, gA, gS, gZ, sA, sZ, sS])
    rw [← HR.out, HCL.out]
    refine wv (.int .i64 (n : Nat)) ?_; (try simp only [Act.put, gA, gS, gZ, sA, sZ, sS])
    refine wpList_nil ?_
    go_upto_region 6 with fail
    refine wp_region_lit ?_
    refine wv (.slice (some ⟨G, 0, none⟩) (n + 1) c) ?_; (try simp only [Act.put, gA, gS, gZ, sA, sZ, sS])
    refine wv (.int .i64 (n : Nat)) ?_; (try simp only [Act.put, gA, gS, gZ, sA, sZ, sS])
    refine wv (.pointer (some ⟨G, n, none⟩)) ?_ (hrun := by go_simp <;> (intro hz; exfalso; omega)); (try simp only [Act.put, gA, gS, gZ, sA, sZ, sS])
    refine BigFrame.wpList_want (by rfl) fun K' hK => wp_store_cell 9 _ _ rfl ⟨G, n, none⟩ (.string ⟨#[]⟩) rfl rfl (by have q2 := P2.out; have q3 := P3.out; go_simp) (hK _ _ ?_); (try simp only [Act.put, gA, gS, gZ, sA, sZ, sS])
    refine wpList_nil ?_
    go_upto_region 7 with fail
    refine wp_region_last 8 (I := Cm0I g G n c _ _ _ _ _ _ _ _ _ _ _ _ _ _ _ _ _ _ _ _ _ _ _ _ _ _) (by kernel_rfl) (by kernel_rfl) (by kernel_rfl) ⟨_, _, _, _, _, _, _, _, rfl, ⟨(fun h => Bool.noConfusion h), (fun h => Bool.noConfusion h), (fun h => Bool.noConfusion h), (fun h => Bool.noConfusion h), (fun h => Bool.noConfusion h), (fun h => Bool.noConfusion h), (fun h => Bool.noConfusion h), (fun h => Bool.noConfusion h)⟩⟩ ?_
    intro w5 hb5
    have Q1 := (KF.out w5 hb5).1
    have Q2 := (KF.out w5 hb5).2
    refine ⟨?_, ?_⟩
    · intro i hi Lx ac hI hL haft
      obtain ⟨v29, v30, v31, v32, v33, v34, v35, v36, rfl, hs⟩ := hI
      match i, hi with
      | 0, _ =>
        exact i_val rfl (.pointer (some ⟨g, 0, none⟩)) w5 (by rfl) (by go_simp) ⟨⟨(.pointer (some ⟨g, 0, none⟩)), v30, v31, v32, v33, v34, v35, v36, rfl, { hs with e29 := fun _ => rfl }⟩, rfl⟩
      | 1, _ =>
        exact i_val rfl (.int .i64 0) w5 (by rfl) (by go_simp) ⟨⟨v29, (.int .i64 0), v31, v32, v33, v34, v35, v36, rfl, { hs with e30 := fun _ => rfl }⟩, rfl⟩
      | 2, _ =>
        exact i_val rfl (.slice (some ⟨G, 0, none⟩) (n + 1) c) w5 (by rfl) (by go_simp) ⟨⟨v29, v30, (.slice (some ⟨G, 0, none⟩) (n + 1) c), v32, v33, v34, v35, v36, rfl, { hs with e31 := fun _ => rfl }⟩, rfl⟩
      | 3, _ =>
        exact i_val rfl (.int .i64 (n : Nat)) w5 (by rfl) (by go_simp) ⟨⟨v29, v30, v31, (.int .i64 (n : Nat)), v33, v34, v35, v36, rfl, { hs with e32 := fun _ => rfl }⟩, rfl⟩
      | 4, _ =>
        have e31x := hs.e31 (haft 2 (by decide))
        subst e31x
        have e32x := hs.e32 (haft 3 (by decide))
        subst e32x
        exact i_val rfl (.slice (some ⟨G, 0, none⟩) n c) w5 (by rfl) (by go_simp <;> (intro hz; exfalso; omega)) ⟨⟨v29, v30, (.slice (some ⟨G, 0, none⟩) (n + 1) c), (.int .i64 (n : Nat)), (.slice (some ⟨G, 0, none⟩) n c), v34, v35, v36, rfl, { hs with e33 := fun _ => rfl }⟩, rfl⟩
      | 5, _ =>
        have e29x := hs.e29 (haft 0 (by decide))
        subst e29x
        exact i_val rfl (.pointer (some ⟨g, 0, none⟩)) w5 (by rfl) (by go_simp) ⟨⟨(.pointer (some ⟨g, 0, none⟩)), v30, v31, v32, v33, (.pointer (some ⟨g, 0, none⟩)), v35, v36, rfl, { hs with e34 := fun _ => rfl }⟩, rfl⟩
      | 6, _ =>
        have e34x := hs.e34 (haft 5 (by decide))
        subst e34x
        exact i_val rfl (.pointer (some ⟨g, 1, none⟩)) w5 (by rfl) (by go_simp) ⟨⟨v29, v30, v31, v32, v33, (.pointer (some ⟨g, 0, none⟩)), (.pointer (some ⟨g, 1, none⟩)), v36, rfl, { hs with e35 := fun _ => rfl }⟩, rfl⟩
      | 7, _ =>
        have e35x := hs.e35 (haft 6 (by decide))
        subst e35x
        have e30x := hs.e30 (haft 1 (by decide))
        subst e30x
        exact i_val rfl (.pointer (some ⟨g, 1, none⟩)) w5 (by rfl) (by go_simp) ⟨⟨v29, (.int .i64 0), v31, v32, v33, v34, (.pointer (some ⟨g, 1, none⟩)), (.pointer (some ⟨g, 1, none⟩)), rfl, { hs with e36 := fun _ => rfl }⟩, rfl⟩
      | k + 8, h =>
        exfalso
        have h2 : k + 8 < 8 := h
        omega
    intro Lx ac hI hall
    obtain ⟨v29, v30, v31, v32, v33, v34, v35, v36, rfl, hs⟩ := hI
    have e29y := hs.e29 (hall 0 (by decide))
    subst e29y
    have e30y := hs.e30 (hall 1 (by decide))
    subst e30y
    have e31y := hs.e31 (hall 2 (by decide))
    subst e31y
    have e32y := hs.e32 (hall 3 (by decide))
    subst e32y
    have e33y := hs.e33 (hall 4 (by decide))
    subst e33y
    have e34y := hs.e34 (hall 5 (by decide))
    subst e34y
    have e35y := hs.e35 (hall 6 (by decide))
    subst e35y
    have e36y := hs.e36 (hall 7 (by decide))
    subst e36y
    clear hs hall
    refine i_skip rfl (w5.setCell ⟨g, 1, none⟩ (.slice (some ⟨G, 0, none⟩) n c)) (by rfl) (by go_simp) ?_
    have KN := Lib.hid (HRES.out w5 hb5)
    clear hb5
    simp only [Cm0F, Act.put, List.getElem_toArray, List.getElem_cons_succ, List.getElem_cons_zero, List.setIfInBounds_toArray, List.set_cons_zero, List.set_cons_succ, Exit.then]
    go_wp2_with fail
    go_ret2
    exact ⟨rfl, _, _, by rw [← HN.out]; exact KN.out⟩
theorem LkW.come1 {w w1 : World} {B g G c : Nat} {up : Bool} {v0 : Value} {a : List ByteArray} {x : ByteArray} {r : List ByteArray} (h : LkW w B g up v0 (.slice (some ⟨G, 0, none⟩) (r.length + 1) c) a (x :: r)) (m : Mv (fun k => k = G) w w1) (ho : Own w1 B 9 1 stC (.slice (some ⟨G, 0, none⟩) r.length c) r) :
    LkR w B g v0 (.slice (some ⟨G, 0, none⟩) (r.length + 1) c) up v0 (.slice (some ⟨G, 0, none⟩) r.length c) a r (w1.setCell ⟨g, 2, none⟩ (.slice (some ⟨G, 0, none⟩) r.length c)) := by
  have hGg : g ≠ G := fun q => h.n1 (by rw [q]; rfl)
  have kb : Blk w1 g #[.bool up, v0, (.slice (some ⟨G, 0, none⟩) (r.length + 1) c)] 40 := h.blk.fr m hGg
  refine ⟨⟨kb.set 2 _, ?_, ?_, h.n0, h.n1, h.nd, h.low⟩, ?_, fun k q => .inl q⟩
  · exact (h.o0.fr m (fun k q e => h.nd k q (by rw [e]; rfl))).setCell h.n0 _
  · exact ho.setCell (a := ⟨g, 2, none⟩) (fun q => h.n1 q) _
  · exact (m.mono (fun k q => .inr (.inr (by rw [q]; rfl)))).trans (Mv.setCell w1 g 2 _) (fun k _ q => .inl q)
/-- The slots, while the region runs. -/
structure Cm1S (g G n c : Nat) (f2 f3 f4 f5 f7 f9 f10 f11 f12 f13 f14 f15 f16 f17 f18 f19 f20 f21 f22 f23 f24 f25 f26 f27 f28 f37 : Value) (L : Nat → Bool) (v29 v30 v31 v32 v33 v34 v35 v36 : Value) : Prop where
  e29 : L 0 = true → v29 = .pointer (some ⟨g, 0, none⟩)
  e30 : L 1 = true → v30 = .int .i64 1
  e31 : L 2 = true → v31 = .slice (some ⟨G, 0, none⟩) (n + 1) c
  e32 : L 3 = true → v32 = .int .i64 (n : Nat)
  e33 : L 4 = true → v33 = .slice (some ⟨G, 0, none⟩) n c
  e34 : L 5 = true → v34 = .pointer (some ⟨g, 0, none⟩)
  e35 : L 6 = true → v35 = .pointer (some ⟨g, 1, none⟩)
  e36 : L 7 = true → v36 = .pointer (some ⟨g, 2, none⟩)
abbrev Cm1F (g G n c : Nat) (f2 f3 f4 f5 f7 f9 f10 f11 f12 f13 f14 f15 f16 f17 f18 f19 f20 f21 f22 f23 f24 f25 f26 f27 f28 f37 : Value) (v29 v30 v31 v32 v33 v34 v35 v36 : Value) : Act := { tmps := #[.pointer (some ⟨g, 0, none⟩), .int .i64 1, f2, f3, f4, f5, .slice (some ⟨G, 0, none⟩) (n + 1) c, f7, .int .i64 (n : Nat), f9, f10, f11, f12, f13, f14, f15, f16, f17, f18, f19, f20, f21, f22, f23, f24, f25, f26, f27, f28, v29, v30, v31, v32, v33, v34, v35, v36, f37], defers := [] }
def Cm1I (g G n c : Nat) (f2 f3 f4 f5 f7 f9 f10 f11 f12 f13 f14 f15 f16 f17 f18 f19 f20 f21 f22 f23 f24 f25 f26 f27 f28 f37 : Value) (L : Nat → Bool) (ac : Act) : Prop :=
  ∃ v29 v30 v31 v32 v33 v34 v35 v36, ac = Cm1F g G n c f2 f3 f4 f5 f7 f9 f10 f11 f12 f13 f14 f15 f16 f17 f18 f19 f20 f21 f22 f23 f24 f25 f26 f27 f28 f37 v29 v30 v31 v32 v33 v34 v35 v36 ∧ Cm1S g G n c f2 f3 f4 f5 f7 f9 f10 f11 f12 f13 f14 f15 f16 f17 f18 f19 f20 f21 f22 f23 f24 f25 f26 f27 f28 f37 L v29 v30 v31 v32 v33 v34 v35 v36
set_option maxRecDepth 100000 in
set_option maxHeartbeats 8000000 in
theorem come_yes1 {w : World} {B g : Nat} {up : Bool} {v0 v1 : Value} {a : List ByteArray} {x : ByteArray} {r : List ByteArray} (h : LkW w B g up v0 v1 a (x :: r)) (hr : r.length < 1000) : Calls Try.prog 8 #[.pointer (some ⟨g, 0, none⟩), .int .i64 1] w fun y w' => y = .returned (.tuple #[.string x, .bool true]) ∧ ∃ u0 u1, LkR w B g v0 v1 up u0 u1 a r w' := by
  rcases h.o1.cases with ⟨-, q⟩ | ⟨G, c, q, hBG, hG, -, hmx⟩
  · cases q
  rw [List.length_cons] at q
  subst q
  obtain ⟨cur, t1, t2, t3, t4, t5, t6⟩ := own_come h.o1
  obtain ⟨n, hn⟩ : ∃ n, n = r.length := ⟨_, rfl⟩
  have hl := cellsL_len stC_len r
  rw [Nat.mul_one, ← hn] at hl
  have HU := Lib.hid (under_any h 1)
  have k1 : w.cell? ⟨g, 2, none⟩ = some (.slice (some ⟨G, 0, none⟩) (r.length + 1) c) := h.blk.cell 2
  rw [← hn] at k1
  have HUN := Lib.hid (show unN 1 a (x :: r) = n + 1 by rw [hn]; rfl)
  have HL := Lib.hid h
  have T1 := Lib.hid t1
  have T5 := Lib.hid t5
  have T6 := Lib.hid t6
  have TS := Lib.hid t2
  have HN := Lib.hid hn
  have HCL := Lib.hid hl
  have i1 : n + 1 ≤ c := by omega
  have i2 : (n : Int) < 1000 := by omega
  have i3 : (c : Int) ≤ 9223372036854775807 := by unfold maxLen at hmx; omega
  have i4 : ¬ ((n : Int) + 1 = 0) := by omega
  have i5 : (0 : Int) ≤ (n : Int) := by omega
  have i6 : (n : Int) + 1 ≤ (c : Int) := by omega
  obtain ⟨R, hR⟩ : ∃ R, R = (List.take 0 cur.toList ++ (cellsL stC r ++ List.drop (0 + (cellsL stC r).length) cur.toList)).toArray := ⟨_, rfl⟩
  have RES := t6 (w.setRow G R) (by rw [hR])
  have HR := Lib.hid hR
  obtain ⟨p1, ⟨u, p2⟩, p3⟩ := RES
  rw [← hn] at p1 p2 p3
  have P1 := Lib.hid p1
  have P2 := Lib.hid p2
  have P3 := Lib.hid p3
  have hGg : g ≠ G := fun q => h.n1 (by rw [q]; rfl)
  have MV := Lib.hid (show Mv (fun k => k = G) w ((w.setRow G R).setCell ⟨G, n, none⟩ (.string ⟨#[]⟩)) from (Mv.setRow w G R).trans (Mv.setCell _ G n _) (fun k _ q => q))
  have KF0 := Lib.hid (show Blk ((w.setRow G R).setCell ⟨G, n, none⟩ (.string ⟨#[]⟩)) g _ 40 from h.blk.fr MV.out hGg)
  clear h t1 t2 t3 t5 t6 hR p1 p2 p3 hBG hG hmx hr hl hn
  go_enter Try.func8, Try.ntmps8
  go_upto_region 4 with (go_at_call 12; refine HU.out.mono ?_; rw [HUN.out]; rintro y w ⟨rfl, rfl⟩)
  clear k1
  refine wp_region_lit ?_
  refine wv (.slice (some ⟨G, 0, none⟩) (n + 1) c) ?_; (try simp only [Act.put, gA, gS, gZ, sA, sZ, sS])
  refine wv (.pointer (some ⟨G, 0, none⟩)) ?_; (try simp only [Act.put, gA, gS, gZ, sA, sZ, sS])
  refine wv (.string x) ?_; (try simp only [Act.put, gA, gS, gZ, sA, sZ, sS])
  refine wv (.string x) ?_; (try simp only [Act.put, gA, gS, gZ, sA, sZ, sS])
  refine wpList_nil ?_
  go_upto_region 5 with fail
  clear t4
  refine wp_region_lit ?_
  refine wv (.slice (some ⟨G, 0, none⟩) (n + 1) c) ?_; (try simp only [Act.put, gA, gS, gZ, sA, sZ, sS])
  refine wv (.slice (some ⟨G, 0, none⟩) (n + 1) c) ?_; (try simp only [Act.put, gA, gS, gZ, sA, sZ, sS])
  have KF := Lib.hid (show ∀ W, Below ((w.setRow G R).setCell ⟨G, n, none⟩ (.string ⟨#[]⟩)).heap.size ((w.setRow G R).setCell ⟨G, n, none⟩ (.string ⟨#[]⟩)) W → W.cell? ⟨g, 2, none⟩ = some (.slice (some ⟨G, 0, none⟩) (n + 1) c) ∧ W.frozen? ⟨g, 2, none⟩ = false from fun W hb => by
    have q := KF0.out.below hb KF0.out.lt
    rw [HN.out]
    exact ⟨q.cell 2, q.free 2⟩)
  have HRES := Lib.hid (show ∀ W, Below ((w.setRow G R).setCell ⟨G, n, none⟩ (.string ⟨#[]⟩)).heap.size ((w.setRow G R).setCell ⟨G, n, none⟩ (.string ⟨#[]⟩)) W → LkR w B g v0 (.slice (some ⟨G, 0, none⟩) (n + 1) c) up v0 (.slice (some ⟨G, 0, none⟩) n c) a r (W.setCell ⟨g, 2, none⟩ (.slice (some ⟨G, 0, none⟩) n c)) from fun W hb => by
    have m := MV.out.trans (Mv.of_below (F := fun k => k = G) hb) (fun k _ q => q)
    have q := Own.next P1.out hb
    have hl := HL.out
    obtain rfl := HN.out
    exact hl.come1 m q)
  by_cases hc1 : c = 1
  · have hn0 : n = 0 := by omega
    have HN0 := Lib.hid hn0
    refine wv (.slice (some ⟨G, 0, none⟩) n (c - 1)) ?_ (hrun := by go_simp <;> (intro hz; exfalso; omega)); (try simp only [Act.put, gA, gS, gZ, sA, sZ, sS])
    refine wpList_copy_own rfl _ _ 26 26 rfl 9 (by kernel_rfl) (by kernel_rfl) G 0 (n + 1) c ⟨G, 0, none⟩ n (c - 1) rfl rfl cur 9 T1.out (cellsL stC r) (by rw [HCL.out]; exact (Nat.min_eq_left (Nat.le_succ n)).symm) (fun j v hv => by have q1 := (List.getElem?_eq_some_iff.1 hv).1; have q2 := HCL.out; have q3 := HN0.out; omega) (by have q1 := HCL.out; have q2 := TS.out; omega) (cellsL_one_cell stC_one r) ?_; (try simp only [Act.put, gA, gS, gZ, sA, sZ, sS])
    rw [← HR.out, HCL.out]
    clear hn0
    refine wv (.int .i64 (n : Nat)) ?_; (try simp only [Act.put, gA, gS, gZ, sA, sZ, sS])
    refine wpList_nil ?_
    go_upto_region 6 with fail
    refine wp_region_lit ?_
    refine wv (.slice (some ⟨G, 0, none⟩) (n + 1) c) ?_; (try simp only [Act.put, gA, gS, gZ, sA, sZ, sS])
    refine wv (.int .i64 (n : Nat)) ?_; (try simp only [Act.put, gA, gS, gZ, sA, sZ, sS])
    refine wv (.pointer (some ⟨G, n, none⟩)) ?_ (hrun := by go_simp <;> (intro hz; exfalso; omega)); (try simp only [Act.put, gA, gS, gZ, sA, sZ, sS])
    refine BigFrame.wpList_want (by rfl) fun K' hK => wp_store_cell 9 _ _ rfl ⟨G, n, none⟩ (.string ⟨#[]⟩) rfl rfl (by have q2 := P2.out; have q3 := P3.out; go_simp) (hK _ _ ?_); (try simp only [Act.put, gA, gS, gZ, sA, sZ, sS])
    refine wpList_nil ?_
    go_upto_region 7 with fail
    refine wp_region_last 8 (I := Cm1I g G n c _ _ _ _ _ _ _ _ _ _ _ _ _ _ _ _ _ _ _ _ _ _ _ _ _ _) (by kernel_rfl) (by kernel_rfl) (by kernel_rfl) ⟨_, _, _, _, _, _, _, _, rfl, ⟨(fun h => Bool.noConfusion h), (fun h => Bool.noConfusion h), (fun h => Bool.noConfusion h), (fun h => Bool.noConfusion h), (fun h => Bool.noConfusion h), (fun h => Bool.noConfusion h), (fun h => Bool.noConfusion h), (fun h => Bool.noConfusion h)⟩⟩ ?_
    intro w5 hb5
    have Q1 := (KF.out w5 hb5).1
    have Q2 := (KF.out w5 hb5).2
    refine ⟨?_, ?_⟩
    · intro i hi Lx ac hI hL haft
      obtain ⟨v29, v30, v31, v32, v33, v34, v35, v36, rfl, hs⟩ := hI
      match i, hi with
      | 0, _ =>
        exact i_val rfl (.pointer (some ⟨g, 0, none⟩)) w5 (by rfl) (by go_simp) ⟨⟨(.pointer (some ⟨g, 0, none⟩)), v30, v31, v32, v33, v34, v35, v36, rfl, { hs with e29 := fun _ => rfl }⟩, rfl⟩
      | 1, _ =>
        exact i_val rfl (.int .i64 1) w5 (by rfl) (by go_simp) ⟨⟨v29, (.int .i64 1), v31, v32, v33, v34, v35, v36, rfl, { hs with e30 := fun _ => rfl }⟩, rfl⟩
      | 2, _ =>
        exact i_val rfl (.slice (some ⟨G, 0, none⟩) (n + 1) c) w5 (by rfl) (by go_simp) ⟨⟨v29, v30, (.slice (some ⟨G, 0, none⟩) (n + 1) c), v32, v33, v34, v35, v36, rfl, { hs with e31 := fun _ => rfl }⟩, rfl⟩
      | 3, _ =>
        exact i_val rfl (.int .i64 (n : Nat)) w5 (by rfl) (by go_simp) ⟨⟨v29, v30, v31, (.int .i64 (n : Nat)), v33, v34, v35, v36, rfl, { hs with e32 := fun _ => rfl }⟩, rfl⟩
      | 4, _ =>
        have e31x := hs.e31 (haft 2 (by decide))
        subst e31x
        have e32x := hs.e32 (haft 3 (by decide))
        subst e32x
        exact i_val rfl (.slice (some ⟨G, 0, none⟩) n c) w5 (by rfl) (by go_simp <;> (intro hz; exfalso; omega)) ⟨⟨v29, v30, (.slice (some ⟨G, 0, none⟩) (n + 1) c), (.int .i64 (n : Nat)), (.slice (some ⟨G, 0, none⟩) n c), v34, v35, v36, rfl, { hs with e33 := fun _ => rfl }⟩, rfl⟩
      | 5, _ =>
        have e29x := hs.e29 (haft 0 (by decide))
        subst e29x
        exact i_val rfl (.pointer (some ⟨g, 0, none⟩)) w5 (by rfl) (by go_simp) ⟨⟨(.pointer (some ⟨g, 0, none⟩)), v30, v31, v32, v33, (.pointer (some ⟨g, 0, none⟩)), v35, v36, rfl, { hs with e34 := fun _ => rfl }⟩, rfl⟩
      | 6, _ =>
        have e34x := hs.e34 (haft 5 (by decide))
        subst e34x
        exact i_val rfl (.pointer (some ⟨g, 1, none⟩)) w5 (by rfl) (by go_simp) ⟨⟨v29, v30, v31, v32, v33, (.pointer (some ⟨g, 0, none⟩)), (.pointer (some ⟨g, 1, none⟩)), v36, rfl, { hs with e35 := fun _ => rfl }⟩, rfl⟩
      | 7, _ =>
        have e35x := hs.e35 (haft 6 (by decide))
        subst e35x
        have e30x := hs.e30 (haft 1 (by decide))
        subst e30x
        exact i_val rfl (.pointer (some ⟨g, 2, none⟩)) w5 (by rfl) (by go_simp) ⟨⟨v29, (.int .i64 1), v31, v32, v33, v34, (.pointer (some ⟨g, 1, none⟩)), (.pointer (some ⟨g, 2, none⟩)), rfl, { hs with e36 := fun _ => rfl }⟩, rfl⟩
      | k + 8, h =>
        exfalso
        have h2 : k + 8 < 8 := h
        omega
    intro Lx ac hI hall
    obtain ⟨v29, v30, v31, v32, v33, v34, v35, v36, rfl, hs⟩ := hI
    have e29y := hs.e29 (hall 0 (by decide))
    subst e29y
    have e30y := hs.e30 (hall 1 (by decide))
    subst e30y
    have e31y := hs.e31 (hall 2 (by decide))
    subst e31y
    have e32y := hs.e32 (hall 3 (by decide))
    subst e32y
    have e33y := hs.e33 (hall 4 (by decide))
    subst e33y
    have e34y := hs.e34 (hall 5 (by decide))
    subst e34y
    have e35y := hs.e35 (hall 6 (by decide))
    subst e35y
    have e36y := hs.e36 (hall 7 (by decide))
    subst e36y
    clear hs hall
    refine i_skip rfl (w5.setCell ⟨g, 2, none⟩ (.slice (some ⟨G, 0, none⟩) n c)) (by rfl) (by go_simp) ?_
    have KN := Lib.hid (HRES.out w5 hb5)
    clear hb5
    simp only [Cm1F, Act.put, List.getElem_toArray, List.getElem_cons_succ, List.getElem_cons_zero, List.setIfInBounds_toArray, List.set_cons_zero, List.set_cons_succ, Exit.then]
    go_wp2_with fail
    go_ret2
    exact ⟨rfl, _, _, by rw [← HN.out]; exact KN.out⟩
  · refine wv (.slice (some ⟨G, 1, none⟩) n (c - 1)) ?_ (hrun := by go_simp <;> (intro hz; exfalso; omega)); (try simp only [Act.put, gA, gS, gZ, sA, sZ, sS])
    refine wpList_copy_own rfl _ _ 26 26 rfl 9 (by kernel_rfl) (by kernel_rfl) G 0 (n + 1) c ⟨G, 1, none⟩ n (c - 1) rfl rfl cur 9 T1.out (cellsL stC r) (by rw [HCL.out]; exact (Nat.min_eq_left (Nat.le_succ n)).symm) T5.out (by have q1 := HCL.out; have q2 := TS.out; omega) (cellsL_one_cell stC_one r) ?_; (try simp only [Act.put, gA, gS, gZ, sA, sZ, sS])
    rw [← HR.out, HCL.out]
    refine wv (.int .i64 (n : Nat)) ?_; (try simp only [Act.put, gA, gS, gZ, sA, sZ, sS])
    refine wpList_nil ?_
    go_upto_region 6 with fail
    refine wp_region_lit ?_
    refine wv (.slice (some ⟨G, 0, none⟩) (n + 1) c) ?_; (try simp only [Act.put, gA, gS, gZ, sA, sZ, sS])
    refine wv (.int .i64 (n : Nat)) ?_; (try simp only [Act.put, gA, gS, gZ, sA, sZ, sS])
    refine wv (.pointer (some ⟨G, n, none⟩)) ?_ (hrun := by go_simp <;> (intro hz; exfalso; omega)); (try simp only [Act.put, gA, gS, gZ, sA, sZ, sS])
    refine BigFrame.wpList_want (by rfl) fun K' hK => wp_store_cell 9 _ _ rfl ⟨G, n, none⟩ (.string ⟨#[]⟩) rfl rfl (by have q2 := P2.out; have q3 := P3.out; go_simp) (hK _ _ ?_); (try simp only [Act.put, gA, gS, gZ, sA, sZ, sS])
    refine wpList_nil ?_
    go_upto_region 7 with fail
    refine wp_region_last 8 (I := Cm1I g G n c _ _ _ _ _ _ _ _ _ _ _ _ _ _ _ _ _ _ _ _ _ _ _ _ _ _) (by kernel_rfl) (by kernel_rfl) (by kernel_rfl) ⟨_, _, _, _, _, _, _, _, rfl, ⟨(fun h => Bool.noConfusion h), (fun h => Bool.noConfusion h), (fun h => Bool.noConfusion h), (fun h => Bool.noConfusion h), (fun h => Bool.noConfusion h), (fun h => Bool.noConfusion h), (fun h => Bool.noConfusion h), (fun h => Bool.noConfusion h)⟩⟩ ?_
    intro w5 hb5
    have Q1 := (KF.out w5 hb5).1
    have Q2 := (KF.out w5 hb5).2
    refine ⟨?_, ?_⟩
    · intro i hi Lx ac hI hL haft
      obtain ⟨v29, v30, v31, v32, v33, v34, v35, v36, rfl, hs⟩ := hI
      match i, hi with
      | 0, _ =>
        exact i_val rfl (.pointer (some ⟨g, 0, none⟩)) w5 (by rfl) (by go_simp) ⟨⟨(.pointer (some ⟨g, 0, none⟩)), v30, v31, v32, v33, v34, v35, v36, rfl, { hs with e29 := fun _ => rfl }⟩, rfl⟩
      | 1, _ =>
        exact i_val rfl (.int .i64 1) w5 (by rfl) (by go_simp) ⟨⟨v29, (.int .i64 1), v31, v32, v33, v34, v35, v36, rfl, { hs with e30 := fun _ => rfl }⟩, rfl⟩
      | 2, _ =>
        exact i_val rfl (.slice (some ⟨G, 0, none⟩) (n + 1) c) w5 (by rfl) (by go_simp) ⟨⟨v29, v30, (.slice (some ⟨G, 0, none⟩) (n + 1) c), v32, v33, v34, v35, v36, rfl, { hs with e31 := fun _ => rfl }⟩, rfl⟩
      | 3, _ =>
        exact i_val rfl (.int .i64 (n : Nat)) w5 (by rfl) (by go_simp) ⟨⟨v29, v30, v31, (.int .i64 (n : Nat)), v33, v34, v35, v36, rfl, { hs with e32 := fun _ => rfl }⟩, rfl⟩
      | 4, _ =>
        have e31x := hs.e31 (haft 2 (by decide))
        subst e31x
        have e32x := hs.e32 (haft 3 (by decide))
        subst e32x
        exact i_val rfl (.slice (some ⟨G, 0, none⟩) n c) w5 (by rfl) (by go_simp <;> (intro hz; exfalso; omega)) ⟨⟨v29, v30, (.slice (some ⟨G, 0, none⟩) (n + 1) c), (.int .i64 (n : Nat)), (.slice (some ⟨G, 0, none⟩) n c), v34, v35, v36, rfl, { hs with e33 := fun _ => rfl }⟩, rfl⟩
      | 5, _ =>
        have e29x := hs.e29 (haft 0 (by decide))
        subst e29x
        exact i_val rfl (.pointer (some ⟨g, 0, none⟩)) w5 (by rfl) (by go_simp) ⟨⟨(.pointer (some ⟨g, 0, none⟩)), v30, v31, v32, v33, (.pointer (some ⟨g, 0, none⟩)), v35, v36, rfl, { hs with e34 := fun _ => rfl }⟩, rfl⟩
      | 6, _ =>
        have e34x := hs.e34 (haft 5 (by decide))
        subst e34x
        exact i_val rfl (.pointer (some ⟨g, 1, none⟩)) w5 (by rfl) (by go_simp) ⟨⟨v29, v30, v31, v32, v33, (.pointer (some ⟨g, 0, none⟩)), (.pointer (some ⟨g, 1, none⟩)), v36, rfl, { hs with e35 := fun _ => rfl }⟩, rfl⟩
      | 7, _ =>
        have e35x := hs.e35 (haft 6 (by decide))
        subst e35x
        have e30x := hs.e30 (haft 1 (by decide))
        subst e30x
        exact i_val rfl (.pointer (some ⟨g, 2, none⟩)) w5 (by rfl) (by go_simp) ⟨⟨v29, (.int .i64 1), v31, v32, v33, v34, (.pointer (some ⟨g, 1, none⟩)), (.pointer (some ⟨g, 2, none⟩)), rfl, { hs with e36 := fun _ => rfl }⟩, rfl⟩
      | k + 8, h =>
        exfalso
        have h2 : k + 8 < 8 := h
        omega
    intro Lx ac hI hall
    obtain ⟨v29, v30, v31, v32, v33, v34, v35, v36, rfl, hs⟩ := hI
    have e29y := hs.e29 (hall 0 (by decide))
    subst e29y
    have e30y := hs.e30 (hall 1 (by decide))
    subst e30y
    have e31y := hs.e31 (hall 2 (by decide))
    subst e31y
    have e32y := hs.e32 (hall 3 (by decide))
    subst e32y
    have e33y := hs.e33 (hall 4 (by decide))
    subst e33y
    have e34y := hs.e34 (hall 5 (by decide))
    subst e34y
    have e35y := hs.e35 (hall 6 (by decide))
    subst e35y
    have e36y := hs.e36 (hall 7 (by decide))
    subst e36y
    clear hs hall
    refine i_skip rfl (w5.setCell ⟨g, 2, none⟩ (.slice (some ⟨G, 0, none⟩) n c)) (by rfl) (by go_simp) ?_
    have KN := Lib.hid (HRES.out w5 hb5)
    clear hb5
    simp only [Cm1F, Act.put, List.getElem_toArray, List.getElem_cons_succ, List.getElem_cons_zero, List.setIfInBounds_toArray, List.set_cons_zero, List.set_cons_succ, Exit.then]
    go_wp2_with fail
    go_ret2
    exact ⟨rfl, _, _, by rw [← HN.out]; exact KN.out⟩
theorem come_no {w : World} {B g : Nat} {up : Bool} {v0 v1 : Value} {a b : List ByteArray} (h : LkW w B g up v0 v1 a b) (e : Int) (hn : unN e a b = 0) : Calls Try.prog 8 #[.pointer (some ⟨g, 0, none⟩), .int .i64 e] w fun y w' => y = .returned (.tuple #[.string ⟨#[]⟩, .bool false]) ∧ w' = w := by
  have HU := Lib.hid (under_any h e)
  rw [hn] at HU
  clear h hn
  go_enter Try.func8, Try.ntmps8
  go_wp2_with (go_at_call 12; refine HU.out.mono ?_; rintro y w ⟨rfl, rfl⟩)
  go_ret2
  exact ⟨rfl, rfl⟩
theorem come_nil (e : Int) (w : World) : Calls Try.prog 8 #[.pointer none, .int .i64 e] w fun y w' => y = .returned (.tuple #[.string ⟨#[]⟩, .bool false]) ∧ w' = w := by
  go_enter Try.func8, Try.ntmps8
  go_wp2_with (go_at_call 12; refine (under_nil e w).mono ?_; rintro y w ⟨rfl, rfl⟩)
  go_ret2
  exact ⟨rfl, rfl⟩
/-- What is lost is what would come. -/
theorem lose_any {w : World} {p : Value} {e : Int} {s : ByteArray} {k : Bool} {Q : World → Prop} (h : Calls Try.prog 8 #[p, .int .i64 e] w fun y w' => y = .returned (.tuple #[.string s, .bool k]) ∧ Q w') : Calls Try.prog 7 #[p, .int .i64 e] w fun y w' => y = .returned (.bool k) ∧ Q w' := by
  have H := Lib.hid h
  clear h
  go_enter Try.func7, Try.ntmps7
  go_wp2_with (go_at_call 8; refine H.out.mono ?_; rintro y w1 ⟨rfl, hq⟩)
  go_ret
  exact ⟨rfl, hq⟩
end Go.Proofs.Ytiophmmcennjnaa
