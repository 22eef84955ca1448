/- RecordCold: the law. -/
import Derived.Test.YtpbdamnlfpfclaaClP
namespace Go.Proofs.Ytpbdamnlfpfclaa
open Go.RowKit
attribute [local irreducible] wpQuiet
set_option linter.unusedSimpArgs false
set_option linter.unusedVariables false

theorem built39 : Try.prog.built 39 [] = some (cA fun _ => 0) := by kernel_rfl
theorem cA_size (f : Nat → Int) : (cA f).size = (cL f).length := rfl
theorem size30 : (Try.prog.info? 30).map (·.size) = some 25 := by kernel_rfl
theorem in_info (s : Sd) (a1 : Option Addr) (n1 m1 : Nat) (a2 : Option Addr) (n2 m2 : Nat) (a3 : Option Addr) (n3 m3 : Nat) (a4 : Option Addr) (n4 m4 : Nat) : (Try.prog.info? 30).map (·.size) = some (inA s a1 n1 m1 a2 n2 m2 a3 n3 m3 a4 n4 m4).size := size30
set_option maxRecDepth 100000 in
set_option maxHeartbeats 16000000 in
theorem cold_law (w : World) (s : Sd) (a1 : Option Addr) (n1 m1 : Nat) (a2 : Option Addr) (n2 m2 : Nat) (a3 : Option Addr) (n3 m3 : Nat) (a4 : Option Addr) (n4 m4 : Nat) (vid : Int) (hp : RowsOk w a1 n1 m1 21 ppC (fun _ => True) s.ps) (hv : RowsOk w a2 n2 m2 3 v3C V3.ok s.vs) (hs : RowsOk w a3 n3 m3 3 v3C V3.ok s.ss) (hf : RowsOk w a4 n4 m4 4 v4C V4.ok s.fs) :
    Calls Try.prog 3 #[.agg (inA s a1 n1 m1 a2 n2 m2 a3 n3 m3 a4 n4 m4), .int .i64 vid] w fun e w' => e = .returned (.bool true) ∧ Below w.heap.size w w' := by
  obtain ⟨x, hx⟩ : ∃ x, x = inA s a1 n1 m1 a2 n2 m2 a3 n3 m3 a4 n4 m4 := ⟨_, rfl⟩
  obtain ⟨g, hg⟩ : ∃ g, g = w.heap.size := ⟨_, rfl⟩
  obtain ⟨w1, hw1⟩ : ∃ w1, w1 = w.alloc (.cells x 30) := ⟨_, rfl⟩
  obtain ⟨t, ht⟩ : ∃ t, t = madeS s := ⟨_, rfl⟩
  obtain ⟨zc, hzc⟩ : ∃ zc, zc = cA fun _ => 0 := ⟨_, rfl⟩
  have B1 := Lib.hid (show Below w.heap.size w w1 by rw [hw1]; exact (Below.refl _ _).alloc (Nat.le_refl _) _)
  have KX := Lib.hid (show Blk w1 g x 30 by rw [hw1, hg]; exact Blk.new _ _ _)
  have XI := Lib.hid (show (Try.prog.info? 30).map (·.size) = some x.size by rw [hx]; exact in_info s _ _ _ _ _ _ _ _ _ _ _ _)
  have MADE := Lib.hid (show ∀ W, Below w.heap.size w W → Calls Try.prog 6 #[.agg x] W fun e w' => ∃ v, e = .returned v ∧ (∃ u1 u2 u3 u4, v = stV t u1 u2 u3 u4 ∧ OwS w' W.heap.size t u1 u2 u3 u4) ∧ Below W.heap.size W w' from fun W hW => by
    rw [hx, ht]
    exact (made_any W s a1 n1 m1 a2 n2 m2 a3 n3 m3 a4 n4 m4 (hp.next hW) (hv.next hW) (hs.next hW) (hf.next hW)).mono fun e w' ⟨u1, u2, u3, u4, q1, q2, q3⟩ => ⟨_, q1, ⟨u1, u2, u3, u4, rfl, q2⟩, q3⟩)
  have HG := Lib.hid hg
  have HW := Lib.hid hw1
  have ZC := Lib.hid hzc
  have EF := Lib.hid (show ∀ W, (Op.equalIn 10000 34 (.agg (cfA t.cf)) (.agg (cfA t.cf))).run Try.prog W = .ok true W from fun W => by
    have := equal_cf t.cf t.cf W
    rwa [eqB_self] at this)
  have EC := Lib.hid (show ∀ W, (Op.equalIn 10000 39 (.agg zc) (.agg zc)).run Try.prog W = .ok true W from fun W => by rw [hzc, equal_cc, eqB_self])
  rw [← hx]
  clear hx hg hw1 hp hv hs hf ht hzc
  go_enter Try.func3, Try.ntmps3
  go_upto_region 1 with fail
  rw [← HW.out, ← HG.out]
  go_upto_region 3 with (go_at_call 5; with_reducible refine (speaks_any w1).mono ?_; rintro e w2 ⟨rfl, hb2⟩)
  have B2 := Lib.hid (show Below w.heap.size w w2 from B1.out.trans (hb2.mono B1.out.size))
  have KX2 := Lib.hid (KX.out.below hb2 KX.out.lt)
  clear hb2
  refine wp_region_lit ?_
  refine wpList_val (.agg x) (by rfl) (run_loadVar_of 30 _ rfl g rfl 30 x _ KX2.out Try.underlying30 rfl XI.out) ?_
  (try simp only [Act.put, List.getElem_toArray, List.getElem_cons_succ, List.getElem_cons_zero, List.setIfInBounds_toArray, List.set_cons_zero, List.set_cons_succ])
  refine wpList_callx 6 #[.agg x] (fun v w' => (∃ u1 u2 u3 u4, v = stV t u1 u2 u3 u4 ∧ OwS w' w2.heap.size t u1 u2 u3 u4) ∧ Below w2.heap.size w2 w') (by rfl) (by go_simp) (MADE.out w2 B2.out) ?_
  intro v w3 ⟨⟨y1, y2, y3, y4, hv, os5⟩, hb3⟩
  obtain ⟨q1, c1, e1, -⟩ := os5.o1.shape
  obtain ⟨q2, c2, e2, -⟩ := os5.o2.shape
  obtain ⟨q3, c3, e3, -⟩ := os5.o3.shape
  subst e1
  subst e2
  subst e3
  obtain ⟨k1, hk1⟩ : ∃ n, n = t.po.length := ⟨_, rfl⟩
  obtain ⟨k2, hk2⟩ : ∃ n, n = t.vl.length := ⟨_, rfl⟩
  obtain ⟨k3, hk3⟩ : ∃ n, n = t.st.length := ⟨_, rfl⟩
  rw [← hk1, ← hk2, ← hk3] at os5 hv
  have O5 := Lib.hid os5
  have B3 := Lib.hid (show Below w.heap.size w w3 from B2.out.trans (hb3.mono B2.out.size))
  have KX3 := Lib.hid (KX2.out.below hb3 KX2.out.lt)
  have N1 := Lib.hid hk1
  have N2 := Lib.hid hk2
  have N3 := Lib.hid hk3
  obtain ⟨A5, hA5⟩ : ∃ A, A = stA t (.slice q1 k1 c1) (.slice q2 k2 c2) (.slice q3 k3 c3) y4 := ⟨_, rfl⟩
  have I5 := Lib.hid (show (Try.prog.info? 41).map (·.size) = some A5.size by rw [hA5]; exact st_info _ _ _ _ _)
  have S5 := Lib.hid (show A5.size = 25 by rw [hA5]; rfl)
  have P5 := Lib.hid (show A5.all (·.oneCell') = true by rw [hA5]; exact st_one os5)
  have E5 := Lib.hid hA5
  obtain ⟨b5, hb5⟩ : ∃ b, b = w3.heap.size := ⟨_, rfl⟩
  obtain ⟨w4, hw4⟩ : ∃ w', w' = (w3.alloc (.cells nil25 41)).setRow b5 A5 := ⟨_, rfl⟩
  have D4 := Lib.hid (show Below w3.heap.size w3 w4 by rw [hw4, hb5]; exact below_setRow ((Below.refl _ _).alloc (Nat.le_refl _) _) (Nat.le_refl _) _)
  have KA := Lib.hid (show Blk w4 b5 A5 41 by rw [hw4, hb5]; exact (Blk.new _ _ _).row _)
  have H5 := Lib.hid hb5
  have H4 := Lib.hid hw4
  have hv5 : v = .agg A5 := by rw [hv, hA5]
  subst hv5
  clear hv
  clear hb3 os5 hA5 hb5 hw4 hk1 hk2 hk3
  (try simp only [Act.put, List.getElem_toArray, List.getElem_cons_succ, List.getElem_cons_zero, List.setIfInBounds_toArray, List.set_cons_zero, List.set_cons_succ])
  refine wpList_alloc 41 rfl (by rfl) nil25 z41 ?_
  (try simp only [Act.put, List.getElem_toArray, List.getElem_cons_succ, List.getElem_cons_zero, List.setIfInBounds_toArray, List.set_cons_zero, List.set_cons_succ])
  rw [← H5.out]
  refine wpList_store_row rfl 41 _ _ rfl b5 A5 rfl rfl 41 nil25 (by rw [H5.out]; exact Blk.new _ _ _) I5.out (by rw [S5.out]; rfl) P5.out ?_
  (try simp only [Act.put, List.getElem_toArray, List.getElem_cons_succ, List.getElem_cons_zero, List.setIfInBounds_toArray, List.set_cons_zero, List.set_cons_succ])
  refine wpList_nil ?_
  rw [← H4.out]
  go_upto_region 4 with fail
  refine wp_region_lit ?_
  refine wpList_val (.agg A5) (by rfl) (run_loadVar_of 41 _ rfl b5 rfl 41 A5 _ KA.out Try.underlying41 rfl I5.out) ?_
  (try simp only [Act.put, List.getElem_toArray, List.getElem_cons_succ, List.getElem_cons_zero, List.setIfInBounds_toArray, List.set_cons_zero, List.set_cons_succ])
  refine wpList_callx 7 #[.agg A5] (fun v w' => (∃ u1 u2 u3, v = stV (coldS t) u1 u2 u3 (.slice none 0 0) ∧ OwS w' w4.heap.size (coldS t) u1 u2 u3 (.slice none 0 0)) ∧ Below w4.heap.size w4 w') (by rfl) (by go_simp) (by
    have h := cold_st (O5.out.next D4.out)
    rw [show stV t (.slice q1 k1 c1) (.slice q2 k2 c2) (.slice q3 k3 c3) y4 = .agg A5 by rw [E5.out]] at h
    exact h.mono fun e w' ⟨u1, u2, u3, q1, q2, q3⟩ => ⟨_, q1, ⟨u1, u2, u3, rfl, q2⟩, q3⟩) ?_
  intro v w5 ⟨⟨z1, z2, z3, hv, os6⟩, hb5⟩
  obtain ⟨p1, e1, g1, -⟩ := os6.o1.shape
  obtain ⟨p2, e2, g2, -⟩ := os6.o2.shape
  obtain ⟨p3, e3, g3, -⟩ := os6.o3.shape
  subst g1
  subst g2
  subst g3
  rw [show (coldS t).po.length = k1 by rw [N1.out]; simp [coldS], show (coldS t).vl.length = k2 by rw [N2.out]; rfl, show (coldS t).st.length = k3 by rw [N3.out]; rfl] at os6 hv
  have O6 := Lib.hid os6
  obtain ⟨A6, hA6⟩ : ∃ A, A = stA (coldS t) (.slice p1 k1 e1) (.slice p2 k2 e2) (.slice p3 k3 e3) (.slice none 0 0) := ⟨_, rfl⟩
  have I6 := Lib.hid (show (Try.prog.info? 41).map (·.size) = some A6.size by rw [hA6]; exact st_info _ _ _ _ _)
  have S6 := Lib.hid (show A6.size = 25 by rw [hA6]; rfl)
  have P6 := Lib.hid (show A6.all (·.oneCell') = true by rw [hA6]; exact st_one os6)
  have E6 := Lib.hid hA6
  obtain ⟨b6, hb6⟩ : ∃ b, b = w5.heap.size := ⟨_, rfl⟩
  obtain ⟨wB, hwB⟩ : ∃ w', w' = (w5.alloc (.cells nil25 41)).setRow b6 A6 := ⟨_, rfl⟩
  have D6 := Lib.hid (show Below w5.heap.size w5 wB by rw [hwB, hb6]; exact below_setRow ((Below.refl _ _).alloc (Nat.le_refl _) _) (Nat.le_refl _) _)
  have D5 := Lib.hid hb5
  have D46 := Lib.hid (show Below w4.heap.size w4 wB from hb5.trans (D6.out.mono hb5.size))
  have D36 := Lib.hid (show Below w3.heap.size w3 wB from D4.out.trans (D46.out.mono D4.out.size))
  have KB := Lib.hid (show Blk wB b6 A6 41 by rw [hwB, hb6]; exact (Blk.new _ _ _).row _)
  have H6 := Lib.hid hb6
  have H7 := Lib.hid hwB
  have HH := Lib.hid (show ClH w wB x A5 A6 g b5 b6 t q1 k1 c1 p1 e1 q2 k2 c2 p2 e2 q3 k3 c3 p3 e3 y4 from
    { below := B3.out.trans (D36.out.mono B3.out.size)
      ki := KX3.out.below D36.out KX3.out.lt
      xi := XI.out
      k5 := KA.out.below D46.out KA.out.lt
      k6 := KB.out
      q5 := E5.out
      q6 := hA6
      o5 := by
        have h := O5.out.next D36.out
        exact ⟨h.o1.mono (Nat.zero_le _), h.o2.mono (Nat.zero_le _), h.o3.mono (Nat.zero_le _), h.o4.mono (Nat.zero_le _), h.few⟩
      o6 := by
        have h := os6.next D6.out
        exact ⟨h.o1.mono (Nat.zero_le _), h.o2.mono (Nat.zero_le _), h.o3.mono (Nat.zero_le _), h.o4.mono (Nat.zero_le _), h.few⟩
      l1 := N1.out
      l2 := N2.out
      l3 := N3.out
      made := fun W hW => (MADE.out W ((B3.out.trans (D36.out.mono B3.out.size)).trans (hW.mono (Nat.le_trans B3.out.size D36.out.size)))).mono fun e w' ⟨v, q1, ⟨u1, u2, u3, u4, q2, q3⟩, q4⟩ => ⟨v, q1, ⟨_, u1, u2, u3, u4, q2, q3⟩, q4⟩ })
  have hv6 : v = .agg A6 := by rw [hv, hA6]
  subst hv6
  clear hv
  clear hb5 os6 hA6 hb6 hwB
  (try simp only [Act.put, List.getElem_toArray, List.getElem_cons_succ, List.getElem_cons_zero, List.setIfInBounds_toArray, List.set_cons_zero, List.set_cons_succ])
  refine wpList_alloc 41 rfl (by rfl) nil25 z41 ?_
  (try simp only [Act.put, List.getElem_toArray, List.getElem_cons_succ, List.getElem_cons_zero, List.setIfInBounds_toArray, List.set_cons_zero, List.set_cons_succ])
  rw [← H6.out]
  refine wpList_store_row rfl 41 _ _ rfl b6 A6 rfl rfl 41 nil25 (by rw [H6.out]; exact Blk.new _ _ _) I6.out (by rw [S6.out]; rfl) P6.out ?_
  (try simp only [Act.put, List.getElem_toArray, List.getElem_cons_succ, List.getElem_cons_zero, List.setIfInBounds_toArray, List.set_cons_zero, List.set_cons_succ])
  refine wpList_nil ?_
  rw [← H7.out]
  have K5 := Lib.hid (show Blk wB b5 (stA t (.slice q1 k1 c1) (.slice q2 k2 c2) (.slice q3 k3 c3) y4) 41 by rw [← E5.out]; exact HH.out.k5)
  have K6 := Lib.hid (show Blk wB b6 (stA (coldS t) (.slice p1 k1 e1) (.slice p2 k2 e2) (.slice p3 k3 e3) (.slice none 0 0)) 41 by rw [← E6.out]; exact HH.out.k6)
  obtain ⟨s1, s2, s3⟩ := HH.out.c5 wB (Below.refl _ _)
  obtain ⟨r1, r2, r3⟩ := HH.out.c6 wB (Below.refl _ _)
  have r4 : wB.cell? ⟨b6, 9, none⟩ = some (.slice none 0 0) := (st_cells K6.out).2.2.2.1
  have r5 : wB.cell? ⟨b6, 24, none⟩ = some (.int .i64 0) := (st_cells K6.out).2.2.2.2
  go_upto_region 5 with fail
  refine wp_region_lit ?_
  refine wpList_val (.pointer (some ⟨b6, 0, none⟩)) (by rfl) (by go_simp) ?_
  (try simp only [Act.put, List.getElem_toArray, List.getElem_cons_succ, List.getElem_cons_zero, List.setIfInBounds_toArray, List.set_cons_zero, List.set_cons_succ])
  refine wpList_val (.agg (cfA t.cf)) (by rfl) (run_loadPart_of 34 _ rfl b6 0 rfl 41 _ (cfC t.cf) _ K6.out (st_cf (coldS t) _ _ _ _) Try.underlying34 rfl (cf_info t.cf)) ?_
  (try simp only [Act.put, List.getElem_toArray, List.getElem_cons_succ, List.getElem_cons_zero, List.setIfInBounds_toArray, List.set_cons_zero, List.set_cons_succ])
  refine wpList_val (.pointer (some ⟨b5, 0, none⟩)) (by rfl) (by go_simp) ?_
  (try simp only [Act.put, List.getElem_toArray, List.getElem_cons_succ, List.getElem_cons_zero, List.setIfInBounds_toArray, List.set_cons_zero, List.set_cons_succ])
  refine wpList_val (.agg (cfA t.cf)) (by rfl) (run_loadPart_of 34 _ rfl b5 0 rfl 41 _ (cfC t.cf) _ K5.out (st_cf (t) _ _ _ _) Try.underlying34 rfl (cf_info t.cf)) ?_
  (try simp only [Act.put, List.getElem_toArray, List.getElem_cons_succ, List.getElem_cons_zero, List.setIfInBounds_toArray, List.set_cons_zero, List.set_cons_succ])
  refine wpList_val (.bool false) (by rfl) (by have q := EF.out; go_simp) ?_
  (try simp only [Act.put, List.getElem_toArray, List.getElem_cons_succ, List.getElem_cons_zero, List.setIfInBounds_toArray, List.set_cons_zero, List.set_cons_succ])
  refine wpList_val (.bool false) (by rfl) (by go_simp) ?_
  (try simp only [Act.put, List.getElem_toArray, List.getElem_cons_succ, List.getElem_cons_zero, List.setIfInBounds_toArray, List.set_cons_zero, List.set_cons_succ])
  refine wpList_val (.pointer (some ⟨b6, 24, none⟩)) (by rfl) (by go_simp) ?_
  (try simp only [Act.put, List.getElem_toArray, List.getElem_cons_succ, List.getElem_cons_zero, List.setIfInBounds_toArray, List.set_cons_zero, List.set_cons_succ])
  refine wpList_val (.int .i64 0) (by rfl) (by go_simp) ?_
  (try simp only [Act.put, List.getElem_toArray, List.getElem_cons_succ, List.getElem_cons_zero, List.setIfInBounds_toArray, List.set_cons_zero, List.set_cons_succ])
  refine wpList_val (.bool false) (by rfl) (by go_simp) ?_
  (try simp only [Act.put, List.getElem_toArray, List.getElem_cons_succ, List.getElem_cons_zero, List.setIfInBounds_toArray, List.set_cons_zero, List.set_cons_succ])
  refine wpList_val (.bool false) (by rfl) (by go_simp) ?_
  (try simp only [Act.put, List.getElem_toArray, List.getElem_cons_succ, List.getElem_cons_zero, List.setIfInBounds_toArray, List.set_cons_zero, List.set_cons_succ])
  refine wpList_val (.bool false) (by rfl) (by go_simp) ?_
  (try simp only [Act.put, List.getElem_toArray, List.getElem_cons_succ, List.getElem_cons_zero, List.setIfInBounds_toArray, List.set_cons_zero, List.set_cons_succ])
  refine wpList_val (.pointer (some ⟨b6, 10, none⟩)) (by rfl) (by go_simp) ?_
  (try simp only [Act.put, List.getElem_toArray, List.getElem_cons_succ, List.getElem_cons_zero, List.setIfInBounds_toArray, List.set_cons_zero, List.set_cons_succ])
  refine wpList_val (.agg zc) (by rfl) (by rw [ZC.out]; exact run_loadPart_of 39 _ rfl b6 10 rfl 41 _ (cL fun _ => 0) _ K6.out (st_cc (coldS t) _ _ _ _) Try.underlying39 rfl (cA_info _)) ?_
  (try simp only [Act.put, List.getElem_toArray, List.getElem_cons_succ, List.getElem_cons_zero, List.setIfInBounds_toArray, List.set_cons_zero, List.set_cons_succ])
  refine wpList_val (.agg zc) (by rfl) (run_build_of 39 [] rfl _ _ rfl (by rw [ZC.out]; exact built39)) ?_
  (try simp only [Act.put, List.getElem_toArray, List.getElem_cons_succ, List.getElem_cons_zero, List.setIfInBounds_toArray, List.set_cons_zero, List.set_cons_succ])
  refine wpList_val (.bool false) (by rfl) (by have q := EC.out; go_simp) ?_
  (try simp only [Act.put, List.getElem_toArray, List.getElem_cons_succ, List.getElem_cons_zero, List.setIfInBounds_toArray, List.set_cons_zero, List.set_cons_succ])
  refine wpList_val (.bool false) (by rfl) (by go_simp) ?_
  (try simp only [Act.put, List.getElem_toArray, List.getElem_cons_succ, List.getElem_cons_zero, List.setIfInBounds_toArray, List.set_cons_zero, List.set_cons_succ])
  refine wpList_val (.bool false) (by rfl) (by go_simp) ?_
  (try simp only [Act.put, List.getElem_toArray, List.getElem_cons_succ, List.getElem_cons_zero, List.setIfInBounds_toArray, List.set_cons_zero, List.set_cons_succ])
  refine wpList_val (.pointer (some ⟨b6, 9, none⟩)) (by rfl) (by go_simp) ?_
  (try simp only [Act.put, List.getElem_toArray, List.getElem_cons_succ, List.getElem_cons_zero, List.setIfInBounds_toArray, List.set_cons_zero, List.set_cons_succ])
  refine wpList_val (.slice none 0 0) (by rfl) (by go_simp) ?_
  (try simp only [Act.put, List.getElem_toArray, List.getElem_cons_succ, List.getElem_cons_zero, List.setIfInBounds_toArray, List.set_cons_zero, List.set_cons_succ])
  refine wpList_val (.int .i64 0) (by rfl) (by go_simp) ?_
  (try simp only [Act.put, List.getElem_toArray, List.getElem_cons_succ, List.getElem_cons_zero, List.setIfInBounds_toArray, List.set_cons_zero, List.set_cons_succ])
  refine wpList_val (.bool false) (by rfl) (by go_simp) ?_
  (try simp only [Act.put, List.getElem_toArray, List.getElem_cons_succ, List.getElem_cons_zero, List.setIfInBounds_toArray, List.set_cons_zero, List.set_cons_succ])
  refine wpList_val (.bool false) (by rfl) (by go_simp) ?_
  (try simp only [Act.put, List.getElem_toArray, List.getElem_cons_succ, List.getElem_cons_zero, List.setIfInBounds_toArray, List.set_cons_zero, List.set_cons_succ])
  refine wpList_val (.bool false) (by rfl) (by go_simp) ?_
  (try simp only [Act.put, List.getElem_toArray, List.getElem_cons_succ, List.getElem_cons_zero, List.setIfInBounds_toArray, List.set_cons_zero, List.set_cons_succ])
  refine wpList_val (.pointer (some ⟨b6, 6, none⟩)) (by rfl) (by go_simp) ?_
  (try simp only [Act.put, List.getElem_toArray, List.getElem_cons_succ, List.getElem_cons_zero, List.setIfInBounds_toArray, List.set_cons_zero, List.set_cons_succ])
  refine wpList_val (.slice p1 k1 e1) (by rfl) (by go_simp) ?_
  (try simp only [Act.put, List.getElem_toArray, List.getElem_cons_succ, List.getElem_cons_zero, List.setIfInBounds_toArray, List.set_cons_zero, List.set_cons_succ])
  refine wpList_val (.int .i64 (k1 : Nat)) (by rfl) (by go_simp) ?_
  (try simp only [Act.put, List.getElem_toArray, List.getElem_cons_succ, List.getElem_cons_zero, List.setIfInBounds_toArray, List.set_cons_zero, List.set_cons_succ])
  refine wpList_val (.pointer (some ⟨b5, 6, none⟩)) (by rfl) (by go_simp) ?_
  (try simp only [Act.put, List.getElem_toArray, List.getElem_cons_succ, List.getElem_cons_zero, List.setIfInBounds_toArray, List.set_cons_zero, List.set_cons_succ])
  refine wpList_val (.slice q1 k1 c1) (by rfl) (by go_simp) ?_
  (try simp only [Act.put, List.getElem_toArray, List.getElem_cons_succ, List.getElem_cons_zero, List.setIfInBounds_toArray, List.set_cons_zero, List.set_cons_succ])
  refine wpList_val (.int .i64 (k1 : Nat)) (by rfl) (by go_simp) ?_
  (try simp only [Act.put, List.getElem_toArray, List.getElem_cons_succ, List.getElem_cons_zero, List.setIfInBounds_toArray, List.set_cons_zero, List.set_cons_succ])
  refine wpList_val (.bool false) (by rfl) (by go_simp) ?_
  (try simp only [Act.put, List.getElem_toArray, List.getElem_cons_succ, List.getElem_cons_zero, List.setIfInBounds_toArray, List.set_cons_zero, List.set_cons_succ])
  refine wpList_val (.bool false) (by rfl) (by go_simp) ?_
  (try simp only [Act.put, List.getElem_toArray, List.getElem_cons_succ, List.getElem_cons_zero, List.setIfInBounds_toArray, List.set_cons_zero, List.set_cons_succ])
  refine wpList_val (.bool false) (by rfl) (by go_simp) ?_
  (try simp only [Act.put, List.getElem_toArray, List.getElem_cons_succ, List.getElem_cons_zero, List.setIfInBounds_toArray, List.set_cons_zero, List.set_cons_succ])
  refine wpList_val (.pointer (some ⟨b6, 7, none⟩)) (by rfl) (by go_simp) ?_
  (try simp only [Act.put, List.getElem_toArray, List.getElem_cons_succ, List.getElem_cons_zero, List.setIfInBounds_toArray, List.set_cons_zero, List.set_cons_succ])
  refine wpList_val (.slice p2 k2 e2) (by rfl) (by go_simp) ?_
  (try simp only [Act.put, List.getElem_toArray, List.getElem_cons_succ, List.getElem_cons_zero, List.setIfInBounds_toArray, List.set_cons_zero, List.set_cons_succ])
  refine wpList_val (.int .i64 (k2 : Nat)) (by rfl) (by go_simp) ?_
  (try simp only [Act.put, List.getElem_toArray, List.getElem_cons_succ, List.getElem_cons_zero, List.setIfInBounds_toArray, List.set_cons_zero, List.set_cons_succ])
  refine wpList_val (.pointer (some ⟨b5, 7, none⟩)) (by rfl) (by go_simp) ?_
  (try simp only [Act.put, List.getElem_toArray, List.getElem_cons_succ, List.getElem_cons_zero, List.setIfInBounds_toArray, List.set_cons_zero, List.set_cons_succ])
  refine wpList_val (.slice q2 k2 c2) (by rfl) (by go_simp) ?_
  (try simp only [Act.put, List.getElem_toArray, List.getElem_cons_succ, List.getElem_cons_zero, List.setIfInBounds_toArray, List.set_cons_zero, List.set_cons_succ])
  refine wpList_val (.int .i64 (k2 : Nat)) (by rfl) (by go_simp) ?_
  (try simp only [Act.put, List.getElem_toArray, List.getElem_cons_succ, List.getElem_cons_zero, List.setIfInBounds_toArray, List.set_cons_zero, List.set_cons_succ])
  refine wpList_val (.bool false) (by rfl) (by go_simp) ?_
  (try simp only [Act.put, List.getElem_toArray, List.getElem_cons_succ, List.getElem_cons_zero, List.setIfInBounds_toArray, List.set_cons_zero, List.set_cons_succ])
  refine wpList_val (.bool false) (by rfl) (by go_simp) ?_
  (try simp only [Act.put, List.getElem_toArray, List.getElem_cons_succ, List.getElem_cons_zero, List.setIfInBounds_toArray, List.set_cons_zero, List.set_cons_succ])
  refine wpList_val (.bool false) (by rfl) (by go_simp) ?_
  (try simp only [Act.put, List.getElem_toArray, List.getElem_cons_succ, List.getElem_cons_zero, List.setIfInBounds_toArray, List.set_cons_zero, List.set_cons_succ])
  refine wpList_val (.pointer (some ⟨b6, 8, none⟩)) (by rfl) (by go_simp) ?_
  (try simp only [Act.put, List.getElem_toArray, List.getElem_cons_succ, List.getElem_cons_zero, List.setIfInBounds_toArray, List.set_cons_zero, List.set_cons_succ])
  refine wpList_val (.slice p3 k3 e3) (by rfl) (by go_simp) ?_
  (try simp only [Act.put, List.getElem_toArray, List.getElem_cons_succ, List.getElem_cons_zero, List.setIfInBounds_toArray, List.set_cons_zero, List.set_cons_succ])
  refine wpList_val (.int .i64 (k3 : Nat)) (by rfl) (by go_simp) ?_
  (try simp only [Act.put, List.getElem_toArray, List.getElem_cons_succ, List.getElem_cons_zero, List.setIfInBounds_toArray, List.set_cons_zero, List.set_cons_succ])
  refine wpList_val (.pointer (some ⟨b5, 8, none⟩)) (by rfl) (by go_simp) ?_
  (try simp only [Act.put, List.getElem_toArray, List.getElem_cons_succ, List.getElem_cons_zero, List.setIfInBounds_toArray, List.set_cons_zero, List.set_cons_succ])
  refine wpList_val (.slice q3 k3 c3) (by rfl) (by go_simp) ?_
  (try simp only [Act.put, List.getElem_toArray, List.getElem_cons_succ, List.getElem_cons_zero, List.setIfInBounds_toArray, List.set_cons_zero, List.set_cons_succ])
  refine wpList_val (.int .i64 (k3 : Nat)) (by rfl) (by go_simp) ?_
  (try simp only [Act.put, List.getElem_toArray, List.getElem_cons_succ, List.getElem_cons_zero, List.setIfInBounds_toArray, List.set_cons_zero, List.set_cons_succ])
  refine wpList_val (.bool false) (by rfl) (by go_simp) ?_
  (try simp only [Act.put, List.getElem_toArray, List.getElem_cons_succ, List.getElem_cons_zero, List.setIfInBounds_toArray, List.set_cons_zero, List.set_cons_succ])
  refine wpList_val (.bool false) (by rfl) (by go_simp) ?_
  (try simp only [Act.put, List.getElem_toArray, List.getElem_cons_succ, List.getElem_cons_zero, List.setIfInBounds_toArray, List.set_cons_zero, List.set_cons_succ])
  refine wpList_nil ?_
  clear s1 s2 s3 r1 r2 r3 r4 r5
  rename_i K7 hK7 K6 hK6
  have HK := Lib.hid hK7
  clear hK7
  go_wp2_with fail
  exact HK.out _ _ (c7 w wB x A5 A6 vid g b5 b6 t q1 k1 c1 p1 e1 q2 k2 c2 p2 e2 q3 k3 c3 p3 e3 y4 HH _ _ _ _ _ _ _ _ _ _ _ _ _ _ _ _ _ _ _ _ _ _ _ _ _ _ _ _ _ _ _ _ _ _ _ _ _ _ _ _ _ _ _ _ _ _ _ _ _ _ _ _ _ _ _ _ _ _ _ _ _ _ _ _ _ _ _ _ _ _ _ _ _ _ _ _ _ _ _ _ _ _ _ _ _ _ _ _ _ _ _ _ _ _ _ _ _ _ _ _ _ _ _ _ _ _ _ _ _ _ _ _ _ _ _ _ _ _ _ _ _ _ _ _ _ _ _ _ _ _ _ _ _ _ _ _ _ _ _ _ _ _ _ _ _ _ _ _ _ _ _ _ _ _ _ _ _ _ _ _ _ _ _ _ _ _ _ _ _ wB (Below.refl _ _))
end Go.Proofs.Ytpbdamnlfpfclaa
