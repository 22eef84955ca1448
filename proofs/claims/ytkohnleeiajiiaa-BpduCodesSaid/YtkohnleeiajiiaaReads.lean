/- BpduReads, walked: for every text it returns true. -/
import Derived.Test.YtkohnleeiajiiaaRDec6
import Derived.Test.YtkohnleeiajiiaaSpeaks5
import Derived.Test.YtkohnleeiajiiaaFEq
import Derived.Test.YtkohnleeiajiiaaPduF
namespace Go.Proofs.Ytkohnleeiajiiaa
open Go.RowKit
set_option linter.unusedSimpArgs false
set_option linter.unusedVariables false
attribute [local irreducible] wpQuiet

theorem rdecode_any (s : ByteArray) (w : World) : Calls Try.prog 18 #[.string s] w fun e w' => e = .returned (.tuple #[.agg (pdA (decP s)), .int .i64 (decE s)]) ∧ Below w.heap.size w w' := by
  by_cases h7 : s.size < 7
  · exact rdecode_short s w h7
  by_cases hf : s.extract 0 5 = frontS
  case neg => exact rdecode_front s w h7 hf
  by_cases hb : kindOk (kB s) = true ∧ vB s = verN (kB s)
  case neg => exact rdecode_kind s w h7 hf hb
  obtain ⟨hk, hv⟩ := hb
  have hk3 : kB s = 0 ∨ kB s = 2 ∨ kB s = 128 := by
    unfold kindOk at hk
    simpa [or_assoc] using hk
  rcases hk3 with h | h | h
  · by_cases hl : s.size < needN (kB s)
    · exact rdecode_less s w h7 hf (.inl h) hv hl
    · exact rdecode_in0 s w h7 hf h (by rw [hv, h]; rfl) (by rw [h] at hl; exact Nat.le_of_not_lt hl)
  · by_cases hl : s.size < needN (kB s)
    · exact rdecode_less s w h7 hf (.inr h) hv hl
    · exact rdecode_in2 s w h7 hf h (by rw [hv, h]; rfl) (by rw [h] at hl; exact Nat.le_of_not_lt hl)
  · exact rdecode_128 s w h7 hf h (by rw [hv, h]; rfl)

theorem ptold_of {arr : Array Value} {p : Pd} (h : arr = pdA p) (w : World) : Calls Try.prog 10 #[.agg arr] w fun e w' => e = .returned (.agg arr) ∧ Below w.heap.size w w' := by
  subst h
  exact ptold_any p w

/-- Two blocks alike. -/
structure TwoC (w0 : World) (c c2 : Nat) (arr : Array Value) (t t2 : TypeId) (w : World) : Prop where
  b1 : Blk w c arr t
  b2 : Blk w c2 arr t2
  below : Below w0.heap.size w0 w
theorem TwoC.drew {w0 w : World} {c c2 : Nat} {arr : Array Value} {t t2 : TypeId} (h : TwoC w0 c c2 arr t t2 w) : TwoC w0 c c2 arr t t2 w.drew := ⟨h.b1.drew, h.b2.drew, h.below.drew⟩
theorem TwoC.next {w0 w w' : World} {c c2 : Nat} {arr : Array Value} {t t2 : TypeId} (h : TwoC w0 c c2 arr t t2 w) (hb : Below w.heap.size w w') : TwoC w0 c c2 arr t t2 w' := ⟨h.b1.below hb h.b1.lt, h.b2.below hb h.b2.lt, h.below.trans (hb.mono h.below.size)⟩

set_option maxRecDepth 100000 in
set_option maxHeartbeats 4000000 in
theorem preads_walk (s0 : ByteArray) (w : World) (hm : s0.size ≤ maxLen) :
    Calls Try.prog 4 #[.string s0] w fun e w' => e = .returned (.bool true) ∧ Below w.heap.size w w' := by
  obtain ⟨n, hn, hn2⟩ : ∃ n : Nat, n ≤ s0.size ∧ (s0.size ≤ 60 ∧ n = s0.size ∨ 60 < s0.size ∧ n = 60) := by
    by_cases c : s0.size ≤ 60
    · exact ⟨s0.size, Nat.le_refl _, .inl ⟨c, rfl⟩⟩
    · exact ⟨60, by omega, .inr ⟨by omega, rfl⟩⟩
  obtain ⟨s, hs⟩ : ∃ s, s = s0.extract 0 n := ⟨_, rfl⟩
  have hsm : s.size ≤ 60 := by rw [hs]; simp; omega
  have HN := Lib.hid hn2
  have HS := Lib.hid hs
  have hml : (s0.size : Int) ≤ 9223372036854775807 := by unfold maxLen at hm; omega
  clear hn hn2 hs hm
  go_enter Try.func4, Try.ntmps4
  go_wp2_with fail
  refine (speaks5_any _).mono ?_
  rintro e w1 ⟨rfl, hb1⟩
  go_upto_region 3 with fail
  go_cut [0] (fun s2 wx => s2 = .string s ∧ wx = w1)
  case first =>
    rcases HN.out with ⟨h1, h2⟩ | ⟨h1, h2⟩
    · have h1' : (s0.size : Int) ≤ 60 := by omega
      have HD2 := Lib.hid (show s0.extract 0 s0.size = s by rw [HS.out, h2])
      clear h1 h2
      go_wp2_with fail
      go_meet
      have e : s = s0 := by rw [← HD2.out]; simp
      rw [e]
      exact ⟨rfl, rfl⟩
    · have h1' : (60 : Int) < (s0.size : Int) := by omega
      have HD2 := Lib.hid (show s0.extract 0 60 = s by rw [HS.out, h2])
      clear h1 h2
      go_wp2_with fail
      go_meet
      rw [HD2.out]
      exact ⟨rfl, rfl⟩
  case rest =>
    obtain ⟨rfl, rfl⟩ := hcut
    clear HN HS hml
    obtain ⟨q, hq⟩ : ∃ q, q = decP s := ⟨_, rfl⟩
    obtain ⟨E, hE⟩ : ∃ E, E = decE s := ⟨_, rfl⟩
    obtain ⟨arr, harr⟩ : ∃ arr, arr = pdA q := ⟨_, rfl⟩
    have DA := Lib.hid (show arr = pdA (decP s) by rw [harr, hq])
    have HA := Lib.hid harr
    have hz31 := Lib.hid (show (Try.prog.info? 31).map (·.size) = some arr.size by rw [harr]; exact size31)
    have hz38 := Lib.hid (show (Try.prog.info? 38).map (·.size) = some arr.size by rw [harr]; exact size38)
    have hone := Lib.hid (show arr.all (·.oneCell') = true by rw [harr]; exact pdA_one q)
    have hzz := Lib.hid (show (16 : Nat) = arr.size by rw [harr]; rfl)
    have HEQ := Lib.hid (show ∀ W, (Op.equalIn 10000 31 (.agg arr) (.agg arr)).run Try.prog W = .ok true W from fun W => by rw [harr, ← eqP_self q]; exact equal_pd31 q q W)
    have HE := Lib.hid hE
    have HB1 := Lib.hid hb1
    clear harr hq hE hb1
    go_upto_region 5 with (first
      | (go_at_call 14; refine (pdecode_any s _).mono ?_; rintro e w2 ⟨rfl, hb2⟩; rw [← DA.out, ← HE.out]
         have R := Lib.hid (Blk.new w2 nil16 31))
      | (refine wpList_store_row rfl 31 _ _ rfl w2.heap.size arr rfl rfl 31 nil16 R.out hz31.out hzz.out hone.out ?_))
    have rc := R.out.row arr
    have hg2 : w.heap.size ≤ w2.heap.size := Nat.le_trans HB1.out.size hb2.size
    have hB3 := below_setRow ((HB1.out.trans (hb2.mono HB1.out.size)).alloc hg2 (Obj.cells nil16 31)) hg2 arr
    obtain ⟨w3, hw3⟩ : ∃ w3, w3 = (w2.alloc (Obj.cells nil16 31)).setRow w2.heap.size arr := ⟨_, rfl⟩
    rw [← hw3] at rc hB3
    rw [← hw3]
    have Q3 := Lib.hid rc
    have HB3 := Lib.hid hB3
    clear hw3 R hb2 rc hB3 hg2 HB1
    generalize w2.heap.size = c at *
    go_upto_region 6 with (first
      | (go_at_call 18; refine (rdecode_any s _).mono ?_; rintro e w4 ⟨rfl, hb4⟩; rw [← DA.out, ← HE.out]
         have R := Lib.hid (Blk.new w4 nil16 38))
      | (refine wpList_store_row rfl 38 _ _ rfl w4.heap.size arr rfl rfl 38 nil16 R.out hz38.out hzz.out hone.out ?_))
    have rc := R.out.row arr
    have hc4 : c < w4.heap.size := Nat.lt_of_lt_of_le Q3.out.lt hb4.size
    have rg := ((Q3.out.below hb4 Q3.out.lt).alloc (.cells nil16 38)).rowOther (k := w4.heap.size) (Nat.ne_of_lt hc4) arr
    have hg4 : w.heap.size ≤ w4.heap.size := Nat.le_trans HB3.out.size hb4.size
    have hB5 := below_setRow ((HB3.out.trans (hb4.mono HB3.out.size)).alloc hg4 (Obj.cells nil16 38)) hg4 arr
    obtain ⟨w5, hw5⟩ : ∃ w5, w5 = (w4.alloc (Obj.cells nil16 38)).setRow w4.heap.size arr := ⟨_, rfl⟩
    rw [← hw5] at rc rg hB5
    rw [← hw5]
    have T := Lib.hid (TwoC.drew (w0 := w) ⟨rg, rc, hB5⟩)
    clear hw5 R hb4 hg4 Q3 HB3 hc4 rc rg hB5
    generalize w4.heap.size = c2 at *
    refine wp_region_quiet (C := TwoC w c c2 arr 31 38) (by kernel_rfl) (by kernel_rfl) T.out ?_
    (refine q_val (v := ?_) (by rfl) ?_ ?_; rotate_left; (· (intro w hC; go_simp; try with_reducible rfl)); (try simp only [Act.put, List.getElem_toArray, List.getElem_cons_succ, List.getElem_cons_zero, List.setIfInBounds_toArray, List.set_cons_zero, List.set_cons_succ]))
    (refine q_val (v := ?_) (by rfl) ?_ ?_; rotate_left; (· (intro w hC; go_simp; try with_reducible rfl)); (try simp only [Act.put, List.getElem_toArray, List.getElem_cons_succ, List.getElem_cons_zero, List.setIfInBounds_toArray, List.set_cons_zero, List.set_cons_succ]))
    (refine q_val (v := ?_) (by rfl) ?_ ?_; rotate_left; (· (intro w hC; go_simp; try with_reducible rfl)); (try simp only [Act.put, List.getElem_toArray, List.getElem_cons_succ, List.getElem_cons_zero, List.setIfInBounds_toArray, List.set_cons_zero, List.set_cons_succ]))
    (refine q_val (v := ?_) (by rfl) ?_ ?_; rotate_left; (· (intro w hC; go_simp; try with_reducible rfl)); (try simp only [Act.put, List.getElem_toArray, List.getElem_cons_succ, List.getElem_cons_zero, List.setIfInBounds_toArray, List.set_cons_zero, List.set_cons_succ]))
    (refine q_val (v := .agg arr) (by rfl) (fun w hC => run_loadVar_of 31 _ rfl c rfl 31 arr _ hC.b1 Try.underlying31 rfl hz31.out) ?_; (try simp only [Act.put, List.getElem_toArray, List.getElem_cons_succ, List.getElem_cons_zero, List.setIfInBounds_toArray, List.set_cons_zero, List.set_cons_succ]))
    (refine q_val (v := .agg arr) (by rfl) (fun w hC => run_loadVar_of 38 _ rfl c2 rfl 38 arr _ hC.b2 Try.underlying38 rfl hz38.out) ?_; (try simp only [Act.put, List.getElem_toArray, List.getElem_cons_succ, List.getElem_cons_zero, List.setIfInBounds_toArray, List.set_cons_zero, List.set_cons_succ]))
    refine q_call (v := .agg arr) 10 #[.agg arr] (by rfl) (fun w hC => by go_simp; try with_reducible rfl) (fun w' hC => calls_in (ptold_of HA.out w') (fun _ hb => hC.next hb)) ?_
    (try simp only [Act.put, List.getElem_toArray, List.getElem_cons_succ, List.getElem_cons_zero, List.setIfInBounds_toArray, List.set_cons_zero, List.set_cons_succ])
    (refine q_val (v := ?_) (by rfl) ?_ ?_; rotate_left; (· (intro w hC; have e := HEQ.out; go_simp; try with_reducible rfl)); (try simp only [Act.put, List.getElem_toArray, List.getElem_cons_succ, List.getElem_cons_zero, List.setIfInBounds_toArray, List.set_cons_zero, List.set_cons_succ]))
    (refine q_val (v := ?_) (by rfl) ?_ ?_; rotate_left; (· (intro w hC; go_simp; try with_reducible rfl)); (try simp only [Act.put, List.getElem_toArray, List.getElem_cons_succ, List.getElem_cons_zero, List.setIfInBounds_toArray, List.set_cons_zero, List.set_cons_succ]))
    (refine q_val (v := ?_) (by rfl) ?_ ?_; rotate_left; (· (intro w hC; go_simp; try with_reducible rfl)); (try simp only [Act.put, List.getElem_toArray, List.getElem_cons_succ, List.getElem_cons_zero, List.setIfInBounds_toArray, List.set_cons_zero, List.set_cons_succ]))
    refine wpQuiet_nil ?_
    intro w6 hC
    have HB6 := Lib.hid hC.below
    clear hC T
    go_wp2_with fail
    go_ret
    exact ⟨rfl, HB6.out⟩
end Go.Proofs.Ytkohnleeiajiiaa
