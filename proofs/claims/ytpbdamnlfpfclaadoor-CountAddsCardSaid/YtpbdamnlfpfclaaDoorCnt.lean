/- Counts as a row of fourteen numbers; Plus and Add. -/
import Derived.Test.YtpbdamnlfpfclaaDoorSum
import Derived.Test.YtpbdamnlfpfclaaDoorQuietly
import Derived.Test.YtpbdamnlfpfclaaDoorInv
import Derived.Deep.DeepCutAuto
import Derived.IntWalk
import Derived.WalkLawsBesides
import Derived.WalkSpells
import Derived.Shelf.Abstract
import Derived.Laws.StructEq
import Derived.ChangeKeysEq
namespace Go.Proofs.YtpbdamnlfpfclaaDoor
open Go.RowKit
attribute [local irreducible] wpQuiet
set_option linter.unusedSimpArgs false
set_option linter.unusedVariables false

/-- Fourteen numbers. -/
def cA (c : Nat → Nat) : Array Value := ((List.range 14).map fun j => Value.int .u32 (c j : Nat)).toArray
theorem cA_size (c : Nat → Nat) : (cA c).size = 14 := by simp [cA]
theorem cA_at (c : Nat → Nat) {k : Nat} (h : k < 14) : (cA c)[k]? = some (.int .u32 (c k : Nat)) := by simp [cA, h]
theorem cA_set (c : Nat → Nat) {k : Nat} (h : k < 14) (x : Nat) : (cA c).setIfInBounds k (.int .u32 (x : Nat)) = cA fun j => if j = k then x else c j := by
  refine Array.ext' (List.ext_getElem? fun i => ?_)
  simp only [cA, Array.toList_setIfInBounds, List.getElem?_set, List.getElem?_map, List.length_map, List.length_range]
  by_cases e : k = i
  · subst e
    simp [h]
  · rw [if_neg e]
    by_cases hi : i < 14
    · simp [hi, show ¬ i = k from fun q => e q.symm]
    · simp [hi]
theorem cA_ext {c d : Nat → Nat} (h : ∀ j, j < 14 → c j = d j) : cA c = cA d := by
  unfold cA
  congr 1
  exact List.map_congr_left fun j hj => by rw [h j (List.mem_range.1 hj)]
theorem cA_one (c : Nat → Nat) : (cA c).all (·.oneCell') = true := by
  simp [cA, Value.oneCell']
abbrev cV (c : Nat → Nat) : Value := .agg (cA c)
/-- Are they numbers? -/
def okC (c : Nat → Nat) : Prop := ∀ j, j < 14 → c j < 4294967296
theorem cSize26 : (Tryd.prog.info? 26).map (·.size) = some 14 := by kernel_rfl
theorem cSize23 : (Tryd.prog.info? 23).map (·.size) = some 14 := by kernel_rfl

theorem info22 : (Tryd.prog.info? 22).map (fun i => (i.zero, i.size, i.bytes)) = some (some (.int .u32 0), 1, 4) := by kernel_rfl
theorem cells22 : Tryd.prog.cellsOf 22 = 1 := by kernel_rfl
theorem run_index_c (t : TypeId) (ht : Tryd.prog.underlying t = some (.array 14 22)) (c : Nat → Nat) (k : Nat) (W : World) (hk : k < 14) :
    (Instr.index t (cV c) (.int .i64 (k : Int))).run Tryd.prog W = .ok (.int .u32 (c k : Nat)) W := by
  have h1 : (0 : Int) ≤ (k : Int) ∧ (k : Int) < 14 := by omega
  obtain ⟨i, hi, _⟩ := info_parts info22
  have hs := run_sizeOf (P := Tryd.prog) (w := W) hi
  rw [cells22] at hs
  have hl : (cA c)[k]? = some (.int .u32 (c k : Nat)) := cA_at c hk
  have hz : k < (cA c).size := by rw [cA_size]; exact hk
  have hl2 : (cA c)[k] = .int .u32 (c k : Nat) := by rw [Array.getElem?_eq_getElem hz] at hl; exact Option.some.inj hl
  simp [Instr.index, run_underlying ht, asIntOf, h1, go_sem, part, hs, hk, hl2, hz]

/-- Counts are the same as themselves. -/
theorem equal_self (c : Nat → Nat) (w : World) : (Op.equalIn 10000 26 (cV c) (cV c)).run Tryd.prog w = .ok true w := by
  have ha := fun W => run_isAgg_plain (P := Tryd.prog) (t := 22) Tryd.underlying22 rfl W
  obtain ⟨i, hi, _⟩ := info_parts info22
  have hs := fun W => run_sizeOf (P := Tryd.prog) (w := W) hi
  rw [cells22] at hs
  have u22 := Tryd.underlying22
  have e : cV c = .agg #[.int .u32 (c 0 : Nat), .int .u32 (c 1 : Nat), .int .u32 (c 2 : Nat), .int .u32 (c 3 : Nat), .int .u32 (c 4 : Nat), .int .u32 (c 5 : Nat), .int .u32 (c 6 : Nat), .int .u32 (c 7 : Nat), .int .u32 (c 8 : Nat), .int .u32 (c 9 : Nat), .int .u32 (c 10 : Nat), .int .u32 (c 11 : Nat), .int .u32 (c 12 : Nat), .int .u32 (c 13 : Nat)] := rfl
  rw [e, show (10000 : Nat) = 9999 + 1 from rfl, Op.equalIn]
  simp only [Sem.run_bind, run_underlying Tryd.underlying26, Result.andThen_ok]
  simp only [Std.Legacy.Range.forIn_eq_forIn_range', Std.Legacy.Range.size, Nat.sub_zero, Nat.add_sub_cancel, Nat.div_one, List.range'_succ, List.range'_zero, List.forIn_cons, List.forIn_nil]
  go_simp

/-- Both, place by place. -/
def plusC (c o : Nat → Nat) : Nat → Nat := fun j => sumN (c j) (o j)
theorem okP (c o : Nat → Nat) : okC (plusC c o) := fun j _ => sumN_lt _ _
def part_ (c o : Nat → Nat) (k : Nat) : Nat → Nat := fun j => if j < k then sumN (c j) (o j) else c j
theorem part_zero (c o : Nat → Nat) : part_ c o 0 = c := by funext j; simp [part_]
theorem part_all (c o : Nat → Nat) : cA (part_ c o 14) = cA (plusC c o) := cA_ext fun j hj => by unfold part_ plusC; rw [if_pos hj]
theorem part_step (c o : Nat → Nat) (k : Nat) : (fun j => if j = k then sumN (c k) (o k) else part_ c o k j) = part_ c o (k + 1) := by
  funext j
  unfold part_
  by_cases h : j = k
  · subst h; simp
  · rw [if_neg h]
    by_cases h2 : j < k
    · rw [if_pos h2, if_pos (by omega)]
    · rw [if_neg h2, if_neg (by omega)]

set_option maxRecDepth 100000 in
set_option maxHeartbeats 8000000 in
theorem plus_any (c o : Nat → Nat) (hc : okC c) (ho : okC o) (w : World) : Calls Tryd.prog 8 #[cV c, cV o] w fun e w' => e = .returned (cV (plusC c o)) ∧ Below w.heap.size w w' := by
  have SZ := Lib.hid cSize26
  have HC := Lib.hid hc
  have HO := Lib.hid ho
  clear hc ho
  obtain ⟨x, hx⟩ : ∃ x, x = cA c := ⟨_, rfl⟩
  obtain ⟨y, hy⟩ : ∃ y, y = cA o := ⟨_, rfl⟩
  obtain ⟨zz, hzz⟩ : ∃ zz : Array Value, zz = #[.int .u32 0, .int .u32 0, .int .u32 0, .int .u32 0, .int .u32 0, .int .u32 0, .int .u32 0, .int .u32 0, .int .u32 0, .int .u32 0, .int .u32 0, .int .u32 0, .int .u32 0, .int .u32 0] := ⟨_, rfl⟩
  obtain ⟨r, hr⟩ : ∃ r, r = cA (plusC c o) := ⟨_, rfl⟩
  obtain ⟨g, hg⟩ : ∃ g, g = w.heap.size := ⟨_, rfl⟩
  obtain ⟨w1, hw1⟩ : ∃ w1, w1 = ((w.alloc (.cells x 26)).alloc (.cells y 26)).alloc (.cells zz 26) := ⟨_, rfl⟩
  have B1 := Lib.hid (show Below w.heap.size w w1 by rw [hw1]; exact (((Below.refl _ _).alloc (Nat.le_refl _) _).alloc (by simp) _).alloc (by simp; omega) _)
  have KX := Lib.hid (show Blk w1 g (cA c) 26 by rw [hw1, hg, ← hx]; exact ((Blk.new _ _ _).alloc _).alloc _)
  have KY := Lib.hid (show Blk w1 (g + 1) (cA o) 26 by
    have := (Blk.new (w.alloc (.cells x 26)) y 26).alloc (.cells zz 26)
    rw [hw1, hg, ← hy]
    simpa using this)
  have KZ := Lib.hid (show Blk w1 (g + 1 + 1) zz 26 by
    have := Blk.new ((w.alloc (.cells x 26)).alloc (.cells y 26)) zz 26
    rw [hw1, hg]
    simpa using this)
  have HZ := Lib.hid (show zz.size = 14 ∧ zz.all (·.oneCell') = true by rw [hzz]; exact ⟨rfl, by simp [Value.oneCell']⟩)
  have HW := Lib.hid hw1
  have HG := Lib.hid hg
  have HZZ := Lib.hid hzz
  show Calls Tryd.prog 8 #[.agg (cA c), .agg (cA o)] w fun e w' => e = .returned (.agg (cA (plusC c o))) ∧ Below w.heap.size w w'
  rw [← hx, ← hy, ← hr]
  have HY := Lib.hid hy
  have HR := Lib.hid hr
  clear hx hy hzz hg hw1 hr
  go_enter Tryd.func8, Tryd.ntmps8
  go_upto_region 1 with fail
  rw [← HZZ.out, ← HW.out, ← HG.out]
  have LY := Lib.hid (show Blk w1 (g + 1) y 26 by rw [HY.out]; exact KY.out)
  go_wp2_with (first | (refine wpList_val (.agg y) (by rfl) (run_loadVar_of 26 _ rfl (g + 1) rfl 26 y _ LY.out Tryd.underlying26 rfl (by rw [HY.out, cA_size]; exact SZ.out)) ?_))
  go_loopw [8] (fun j wr => ∃ k : Nat, k ≤ 14 ∧ j = .int .i64 k ∧ Blk wr g (cA (part_ c o k)) 26 ∧ Blk wr (g + 1 + 1) zz 26 ∧ Below w.heap.size w wr) (fun j _ => (14 - intOf j).toNat)
  case atStart => exact ⟨0, by omega, rfl, by rw [part_zero]; exact KX.out, KZ.out, B1.out⟩
  case round =>
    obtain ⟨k, hk, rfl, hx, hz, hb⟩ := hrel
    have JX := Lib.hid hx
    have JZ := Lib.hid hz
    have JB := Lib.hid hb
    clear hx hz hb
    by_cases hlt : k < 14
    · have hix : ∀ W, (Instr.index 26 (.agg y) (.int .i64 (k : Int))).run Tryd.prog W = .ok (.int .u32 (o k : Nat)) W := fun W => by rw [HY.out]; exact run_index_c 26 Tryd.underlying26 o k W hlt
      have q0 : wr.cell? ⟨g, k, none⟩ = some (.int .u32 (c k : Nat)) := by rw [JX.out.cell, cA_at _ hlt]; simp [part_]
      have q1 : wr.frozen? ⟨g, k, none⟩ = false := JX.out.free k
      have EW := wrap_n64 (a := o k) (Nat.lt_trans (HO.out k hlt) (by decide))
      have S11 := Lib.hid (sum11_any (c k) (o k) (HC.out k hlt) (Nat.lt_trans (HO.out k hlt) (by decide)) wr)
      go_wp2_with (first | (go_at_call 11; with_reducible refine S11.out.mono ?_; rintro e w2 ⟨rfl, rfl⟩))
      have NX := Lib.hid (show Blk (wr.setCell ⟨g, k, none⟩ (.int .u32 (sumN (c k) (o k) : Nat))) g (cA (part_ c o (k + 1))) 26 by
        have := JX.out.set k (.int .u32 (sumN (c k) (o k) : Nat))
        rw [cA_set _ hlt, part_step] at this
        exact this)
      have NZ := Lib.hid (JZ.out.other (a := ⟨g, k, none⟩) (by show g ≠ g + 1 + 1; omega) (.int .u32 (sumN (c k) (o k) : Nat)))
      have NB := Lib.hid (show Below w.heap.size w (wr.setCell ⟨g, k, none⟩ (.int .u32 (sumN (c k) (o k) : Nat))) from JB.out.setCell (by show w.heap.size ≤ g; rw [HG.out]; exact Nat.le_refl _) _)
      go_roundw
      case rel => exact ⟨k + 1, by omega, by go_num, NX.out, NZ.out, NB.out⟩
      case measure => simp [intOf]; omega
    · have hk' : k = 14 := by omega
      subst hk'
      have RX := Lib.hid (show Blk wr g r 26 by rw [HR.out, ← part_all]; exact JX.out)
      have RS := Lib.hid (show (Tryd.prog.info? 26).map (·.size) = some r.size by rw [HR.out, cA_size]; exact SZ.out)
      have RO := Lib.hid (show r.all (·.oneCell') = true by rw [HR.out]; exact cA_one _)
      have ZS := Lib.hid HZ.out.1
      have RS2 := Lib.hid (show r.size = zz.size by have := RS.out; rw [SZ.out] at this; rw [ZS.out]; exact (Option.some.inj this).symm)
      go_upto_region 6 with fail
      refine wp_region_lit ?_
      refine wpList_val (.agg r) (by rfl) (run_loadVar_of 26 _ rfl g rfl 26 r _ RX.out Tryd.underlying26 rfl RS.out) ?_
      (try simp only [Act.put, List.getElem_toArray, List.getElem_cons_succ, List.getElem_cons_zero, List.setIfInBounds_toArray, List.set_cons_zero, List.set_cons_succ])
      refine wpList_store_row rfl 26 _ _ rfl (g + 1 + 1) r rfl rfl 26 zz JZ.out RS.out RS2.out.symm RO.out ?_
      (try simp only [Act.put, List.getElem_toArray, List.getElem_cons_succ, List.getElem_cons_zero, List.setIfInBounds_toArray, List.set_cons_zero, List.set_cons_succ])
      refine wpList_nil ?_
      go_wp2_with fail
      refine bodyPost_ret (v := .agg r) (results_cell_row Tryd.results8 _ _ (g + 1 + 1) 26 _ (0, 0) _ rfl (JZ.out.row _) Tryd.underlying26 rfl RS.out) rfl ?_
      exact ⟨rfl, below_setRow JB.out (by rw [HG.out]; omega) _⟩
end Go.Proofs.YtpbdamnlfpfclaaDoor
