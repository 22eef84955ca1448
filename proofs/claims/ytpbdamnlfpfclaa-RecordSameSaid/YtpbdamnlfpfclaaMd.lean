/- Made: made. -/
import Derived.Test.YtpbdamnlfpfclaaMd1
namespace Go.Proofs.Ytpbdamnlfpfclaa
open Go.RowKit
set_option linter.unusedSimpArgs false
set_option linter.unusedVariables false

theorem built_cf (p : Cf) : Try.prog.built 34 [(0, .int .u64 p.p0), (1, .int .i64 p.p1), (2, .int .i64 p.p2), (3, .int .i64 p.p3), (4, .int .i64 p.p4), (5, .int .i64 p.p5)] = some (cfA p) := by kernel_rfl
theorem info28 (ct : Nat → Int) : (Try.prog.info? 28).map (·.size) = some (cL ct).length := by kernel_rfl
theorem in_cc (s : Sd) (a1 : Option Addr) (n1 m1 : Nat) (a2 : Option Addr) (n2 m2 : Nat) (a3 : Option Addr) (n3 m3 : Nat) (a4 : Option Addr) (n4 m4 : Nat) : ∀ i u, (cL s.ct)[i]? = some u → (inA s a1 n1 m1 a2 n2 m2 a3 n3 m3 a4 n4 m4)[11 + i]? = some u := fun i u h => by
  have hi : i < (cL s.ct).length := (List.getElem?_eq_some_iff.1 h).1
  unfold inA inL
  rw [List.getElem?_toArray, List.getElem?_append_right (by rw [cf_len]; omega), cf_len, List.getElem?_append_right (by simp; omega), ← h]
  congr 1
  simp
  omega
theorem built_in (s : Sd) : Try.prog.built 41 [(0, .agg (cfA s.cf)), (6, .int .i64 s.beat), (5, .agg (cA s.ct))] = some (stA (stK s 0 0 0 0) (.slice none 0 0) (.slice none 0 0) (.slice none 0 0) (.slice none 0 0)) := by kernel_rfl
set_option maxRecDepth 100000 in
set_option maxHeartbeats 16000000 in
theorem made_any (w : World) (s : Sd) (a1 : Option Addr) (n1 m1 : Nat) (a2 : Option Addr) (n2 m2 : Nat) (a3 : Option Addr) (n3 m3 : Nat) (a4 : Option Addr) (n4 m4 : Nat) (hp : RowsOk w a1 n1 m1 21 ppC (fun _ => True) s.ps) (hv : RowsOk w a2 n2 m2 3 v3C V3.ok s.vs) (hs : RowsOk w a3 n3 m3 3 v3C V3.ok s.ss) (hf : RowsOk w a4 n4 m4 4 v4C V4.ok s.fs) :
    Calls Try.prog 6 #[.agg (inA s a1 n1 m1 a2 n2 m2 a3 n3 m3 a4 n4 m4)] w fun e w' => ∃ u1 u2 u3 u4, e = .returned (stV (madeS s) u1 u2 u3 u4) ∧ OwS w' w.heap.size (madeS s) u1 u2 u3 u4 ∧ Below w.heap.size w w' := by
  obtain ⟨x, hx⟩ : ∃ x, x = inA s a1 n1 m1 a2 n2 m2 a3 n3 m3 a4 n4 m4 := ⟨_, rfl⟩
  obtain ⟨zz, hzz⟩ : ∃ zz : Array Value, zz = nil25 := ⟨_, rfl⟩
  obtain ⟨g, hg⟩ : ∃ g, g = w.heap.size := ⟨_, rfl⟩
  obtain ⟨w1, hw1⟩ : ∃ w1, w1 = (w.alloc (.cells x 30)).alloc (.cells zz 41) := ⟨_, rfl⟩
  obtain ⟨c, hc⟩ : ∃ c, c = w1.heap.size := ⟨_, rfl⟩
  have b1 : Below w.heap.size w w1 := by rw [hw1]; exact ((Below.refl _ _).alloc (Nat.le_refl _) _).alloc (by simp) _
  have k1 : Blk w1 g (inA s a1 n1 m1 a2 n2 m2 a3 n3 m3 a4 n4 m4) 30 := by rw [hw1, hg, ← hx]; exact (Blk.new _ _ _).alloc _
  have z1 : Blk w1 (g + 1) zz 41 := by
    have := Blk.new (w.alloc (.cells x 30)) zz 41
    rw [hw1, hg]
    simpa using this
  have HH := Lib.hid (show MdH w w1 zz g c s a1 n1 m1 a2 n2 m2 a3 n3 m3 a4 n4 m4 from ⟨b1, hg, hc, z1.lt, k1, z1, by rw [hzz]; rfl, hp, hv, hs, hf⟩)
  have KX := Lib.hid k1
  obtain ⟨r, hr⟩ : ∃ r, r = stA (stK s 0 0 0 0) (.slice none 0 0) (.slice none 0 0) (.slice none 0 0) (.slice none 0 0) := ⟨_, rfl⟩
  have IR := Lib.hid (show (Try.prog.info? 41).map (·.size) = some r.size by rw [hr]; exact st_info _ _ _ _ _)
  have SR := Lib.hid (show r.size = 25 by rw [hr]; rfl)
  have OR := Lib.hid (show r.all (·.oneCell') = true by
    rw [hr]
    exact st_one (w := w) (B := 0) ⟨Own.nil _ _ _ _ _, Own.nil _ _ _ _ _, Own.nil _ _ _ _ _, Own.nil _ _ _ _ _, stK_few s (by omega) (by omega) (by omega) (by omega)⟩)
  have HR := Lib.hid hr
  obtain ⟨wj, hwj⟩ : ∃ w', w' = (w1.alloc (.cells nil25 41)).setRow c r := ⟨_, rfl⟩
  have MJ := Lib.hid (show MjW w1 c (stK s 0 0 0 0) (.slice none 0 0) (.slice none 0 0) (.slice none 0 0) (.slice none 0 0) wj from ⟨by rw [hwj, hc]; exact below_setRow ((Below.refl _ _).alloc (Nat.le_refl _) _) (Nat.le_refl _) _, by rw [hwj, hc, ← hr]; exact (Blk.new _ _ _).row _, ⟨Own.nil _ _ _ _ _, Own.nil _ _ _ _ _, Own.nil _ _ _ _ _, Own.nil _ _ _ _ _, stK_few s (by omega) (by omega) (by omega) (by omega)⟩⟩)
  have HW := Lib.hid hw1
  have HG := Lib.hid hg
  have HC := Lib.hid hc
  have HZ := Lib.hid hzz
  have HJ := Lib.hid hwj
  rw [← hx]
  clear hx hzz hg hw1 hc b1 k1 z1 hp hv hs hf hr hwj
  go_enter Try.func6, Try.ntmps6
  go_upto_region 1 with fail
  rename_i K1 hK1
  have HK1 := Lib.hid hK1
  clear hK1
  change Code.wp Try.prog _ _ _ ((w.alloc (.cells x 30)).alloc (.cells nil25 41))
  rw [← HZ.out, ← HW.out, ← HG.out]
  have c0 : w1.cell? ⟨g, 0, none⟩ = some (.int .u64 s.cf.p0) := KX.out.cell 0
  have c1 : w1.cell? ⟨g, 1, none⟩ = some (.int .i64 s.cf.p1) := KX.out.cell 1
  have c2 : w1.cell? ⟨g, 2, none⟩ = some (.int .i64 s.cf.p2) := KX.out.cell 2
  have c3 : w1.cell? ⟨g, 3, none⟩ = some (.int .i64 s.cf.p3) := KX.out.cell 3
  have c4 : w1.cell? ⟨g, 4, none⟩ = some (.int .i64 s.cf.p4) := KX.out.cell 4
  have c5 : w1.cell? ⟨g, 5, none⟩ = some (.int .i64 s.cf.p5) := KX.out.cell 5
  have c6 : w1.cell? ⟨g, 6, none⟩ = some (.int .i64 s.beat) := KX.out.cell 6
  refine wp_region_lit ?_
  refine wpList_val (.pointer (some ⟨g, 0, none⟩)) (by rfl) (by go_simp) ?_
  (try simp only [Act.put, List.getElem_toArray, List.getElem_cons_succ, List.getElem_cons_zero, List.setIfInBounds_toArray, List.set_cons_zero, List.set_cons_succ])
  refine wpList_val (.int .u64 s.cf.p0) (by rfl) (by go_simp) ?_
  (try simp only [Act.put, List.getElem_toArray, List.getElem_cons_succ, List.getElem_cons_zero, List.setIfInBounds_toArray, List.set_cons_zero, List.set_cons_succ])
  refine wpList_val (.pointer (some ⟨g, 1, none⟩)) (by rfl) (by go_simp) ?_
  (try simp only [Act.put, List.getElem_toArray, List.getElem_cons_succ, List.getElem_cons_zero, List.setIfInBounds_toArray, List.set_cons_zero, List.set_cons_succ])
  refine wpList_val (.pointer (some ⟨g, 1, none⟩)) (by rfl) (by go_simp) ?_
  (try simp only [Act.put, List.getElem_toArray, List.getElem_cons_succ, List.getElem_cons_zero, List.setIfInBounds_toArray, List.set_cons_zero, List.set_cons_succ])
  refine wpList_val (.int .i64 s.cf.p1) (by rfl) (by go_simp) ?_
  (try simp only [Act.put, List.getElem_toArray, List.getElem_cons_succ, List.getElem_cons_zero, List.setIfInBounds_toArray, List.set_cons_zero, List.set_cons_succ])
  refine wpList_val (.pointer (some ⟨g, 1, none⟩)) (by rfl) (by go_simp) ?_
  (try simp only [Act.put, List.getElem_toArray, List.getElem_cons_succ, List.getElem_cons_zero, List.setIfInBounds_toArray, List.set_cons_zero, List.set_cons_succ])
  refine wpList_val (.pointer (some ⟨g, 2, none⟩)) (by rfl) (by go_simp) ?_
  (try simp only [Act.put, List.getElem_toArray, List.getElem_cons_succ, List.getElem_cons_zero, List.setIfInBounds_toArray, List.set_cons_zero, List.set_cons_succ])
  refine wpList_val (.int .i64 s.cf.p2) (by rfl) (by go_simp) ?_
  (try simp only [Act.put, List.getElem_toArray, List.getElem_cons_succ, List.getElem_cons_zero, List.setIfInBounds_toArray, List.set_cons_zero, List.set_cons_succ])
  refine wpList_val (.pointer (some ⟨g, 1, none⟩)) (by rfl) (by go_simp) ?_
  (try simp only [Act.put, List.getElem_toArray, List.getElem_cons_succ, List.getElem_cons_zero, List.setIfInBounds_toArray, List.set_cons_zero, List.set_cons_succ])
  refine wpList_val (.pointer (some ⟨g, 3, none⟩)) (by rfl) (by go_simp) ?_
  (try simp only [Act.put, List.getElem_toArray, List.getElem_cons_succ, List.getElem_cons_zero, List.setIfInBounds_toArray, List.set_cons_zero, List.set_cons_succ])
  refine wpList_val (.int .i64 s.cf.p3) (by rfl) (by go_simp) ?_
  (try simp only [Act.put, List.getElem_toArray, List.getElem_cons_succ, List.getElem_cons_zero, List.setIfInBounds_toArray, List.set_cons_zero, List.set_cons_succ])
  refine wpList_val (.pointer (some ⟨g, 1, none⟩)) (by rfl) (by go_simp) ?_
  (try simp only [Act.put, List.getElem_toArray, List.getElem_cons_succ, List.getElem_cons_zero, List.setIfInBounds_toArray, List.set_cons_zero, List.set_cons_succ])
  refine wpList_val (.pointer (some ⟨g, 4, none⟩)) (by rfl) (by go_simp) ?_
  (try simp only [Act.put, List.getElem_toArray, List.getElem_cons_succ, List.getElem_cons_zero, List.setIfInBounds_toArray, List.set_cons_zero, List.set_cons_succ])
  refine wpList_val (.int .i64 s.cf.p4) (by rfl) (by go_simp) ?_
  (try simp only [Act.put, List.getElem_toArray, List.getElem_cons_succ, List.getElem_cons_zero, List.setIfInBounds_toArray, List.set_cons_zero, List.set_cons_succ])
  refine wpList_val (.pointer (some ⟨g, 1, none⟩)) (by rfl) (by go_simp) ?_
  (try simp only [Act.put, List.getElem_toArray, List.getElem_cons_succ, List.getElem_cons_zero, List.setIfInBounds_toArray, List.set_cons_zero, List.set_cons_succ])
  refine wpList_val (.pointer (some ⟨g, 5, none⟩)) (by rfl) (by go_simp) ?_
  (try simp only [Act.put, List.getElem_toArray, List.getElem_cons_succ, List.getElem_cons_zero, List.setIfInBounds_toArray, List.set_cons_zero, List.set_cons_succ])
  refine wpList_val (.int .i64 s.cf.p5) (by rfl) (by go_simp) ?_
  (try simp only [Act.put, List.getElem_toArray, List.getElem_cons_succ, List.getElem_cons_zero, List.setIfInBounds_toArray, List.set_cons_zero, List.set_cons_succ])
  refine wpList_val (.agg (cfA s.cf)) (by rfl) (run_build_of 34 [(0, .tmp 9), (1, .tmp 12), (2, .tmp 15), (3, .tmp 18), (4, .tmp 21), (5, .tmp 24)] rfl _ _ rfl (built_cf s.cf)) ?_
  (try simp only [Act.put, List.getElem_toArray, List.getElem_cons_succ, List.getElem_cons_zero, List.setIfInBounds_toArray, List.set_cons_zero, List.set_cons_succ])
  refine wpList_val (.pointer (some ⟨g, 1, none⟩)) (by rfl) (by go_simp) ?_
  (try simp only [Act.put, List.getElem_toArray, List.getElem_cons_succ, List.getElem_cons_zero, List.setIfInBounds_toArray, List.set_cons_zero, List.set_cons_succ])
  refine wpList_val (.pointer (some ⟨g, 6, none⟩)) (by rfl) (by go_simp) ?_
  (try simp only [Act.put, List.getElem_toArray, List.getElem_cons_succ, List.getElem_cons_zero, List.setIfInBounds_toArray, List.set_cons_zero, List.set_cons_succ])
  refine wpList_val (.int .i64 s.beat) (by rfl) (by go_simp) ?_
  (try simp only [Act.put, List.getElem_toArray, List.getElem_cons_succ, List.getElem_cons_zero, List.setIfInBounds_toArray, List.set_cons_zero, List.set_cons_succ])
  refine wpList_val (.pointer (some ⟨g, 11, none⟩)) (by rfl) (by go_simp) ?_
  (try simp only [Act.put, List.getElem_toArray, List.getElem_cons_succ, List.getElem_cons_zero, List.setIfInBounds_toArray, List.set_cons_zero, List.set_cons_succ])
  refine wpList_val (.agg (cA s.ct)) (by rfl) (run_loadPart_of 28 _ rfl g 11 rfl 30 _ (cL s.ct) _ KX.out (in_cc s _ _ _ _ _ _ _ _ _ _ _ _) Try.underlying28 rfl (info28 s.ct)) ?_
  (try simp only [Act.put, List.getElem_toArray, List.getElem_cons_succ, List.getElem_cons_zero, List.setIfInBounds_toArray, List.set_cons_zero, List.set_cons_succ])
  refine wpList_val (.agg r) (by rfl) (by rw [HR.out]; exact run_build_of 41 [(0, .tmp 25), (6, .tmp 28), (5, .tmp 30)] rfl _ _ rfl (built_in s)) ?_
  (try simp only [Act.put, List.getElem_toArray, List.getElem_cons_succ, List.getElem_cons_zero, List.setIfInBounds_toArray, List.set_cons_zero, List.set_cons_succ])
  refine wpList_alloc 41 rfl (by rfl) nil25 z41 ?_
  (try simp only [Act.put, List.getElem_toArray, List.getElem_cons_succ, List.getElem_cons_zero, List.setIfInBounds_toArray, List.set_cons_zero, List.set_cons_succ])
  rw [← HC.out]
  refine wpList_store_row rfl 41 _ _ rfl c r rfl rfl 41 nil25 (by rw [HC.out]; exact Blk.new _ _ _) IR.out (by rw [SR.out]; rfl) OR.out ?_
  (try simp only [Act.put, List.getElem_toArray, List.getElem_cons_succ, List.getElem_cons_zero, List.setIfInBounds_toArray, List.set_cons_zero, List.set_cons_succ])
  refine wpList_nil ?_
  rw [← HJ.out]
  exact HK1.out _ _ (md_1 w w1 x zz g c s a1 n1 m1 a2 n2 m2 a3 n3 m3 a4 n4 m4 HH _ _ _ _ _ _ _ _ _ _ _ _ _ _ _ _ _ _ _ _ _ _ _ _ _ _ _ _ _ _ _ _ _ _ _ _ _ _ _ _ _ _ _ _ _ _ _ _ _ _ _ _ _ _ _ _ _ _ _ _ _ _ _ _ _ _ _ _ _ _ _ _ _ _ _ _ _ _ _ _ _ _ _ _ _ _ _ _ _ _ _ _ _ _ _ _ _ _ _ _ _ _ _ _ _ _ _ _ _ _ _ _ _ _ _ _ _ _ _ _ _ _ _ _ _ _ _ _ _ _ _ _ _ _ _ _ _ _ _ _ _ _ _ _ _ _ _ _ _ _ _ _ _ _ _ _ _ _ _ _ _ _ _ _ _ _ _ _ _ _ _ _ _ wj MJ.out)
end Go.Proofs.Ytpbdamnlfpfclaa
