/- Show: all counts, with a blank between. -/
import Derived.Test.YtpbdamnlfpfclaaDoorFmt
namespace Go.Proofs.YtpbdamnlfpfclaaDoor
open Go.RowKit
set_option linter.unusedSimpArgs false
set_option linter.unusedVariables false

/-- Fourteen texts. -/
def sA (f : Nat → ByteArray) : Array Value := ((List.range 14).map fun j => Value.string (f j)).toArray
theorem sA_at (f : Nat → ByteArray) {k : Nat} (h : k < 14) : (sA f)[k]? = some (.string (f k)) := by simp [sA, h]
theorem sA_set (f : Nat → ByteArray) {k : Nat} (h : k < 14) (x : ByteArray) : (sA f).setIfInBounds k (.string x) = sA fun j => if j = k then x else f j := by
  refine Array.ext' (List.ext_getElem? fun i => ?_)
  simp only [sA, Array.toList_setIfInBounds, List.getElem?_set, List.getElem?_map, List.length_map, List.length_range]
  by_cases e : k = i
  · subst e
    simp [h]
  · rw [if_neg e]
    by_cases hi : i < 14
    · simp [hi, show ¬ i = k from fun q => e q.symm]
    · simp [hi]
/-- Those of the first k counts. -/
def upC (c : Nat → Nat) (k : Nat) : Nat → ByteArray := fun j => if j < k then dgS (c j) else ⟨#[]⟩
theorem upC_step (c : Nat → Nat) (k : Nat) : (fun j => if j = k then dgS (c k) else upC c k j) = upC c (k + 1) := by
  funext j
  unfold upC
  by_cases h : j = k
  · subst h; simp
  · rw [if_neg h]
    by_cases h2 : j < k
    · rw [if_pos h2, if_pos (by omega)]
    · rw [if_neg h2, if_neg (by omega)]
/-- The first k counts, with a blank between. -/
def txt (c : Nat → Nat) : Nat → List UInt8
  | 0 => []
  | k + 1 => txt c k ++ (if 0 < k then [32] else []) ++ Lib.decDigits (c k)
theorem inter_snoc (sep x : List UInt8) : ∀ xs : List (List UInt8), sep.intercalate (xs ++ [x]) = (if xs = [] then [] else sep.intercalate xs ++ sep) ++ x
  | [] => by simp [List.intercalate]
  | [a] => by simp [List.intercalate]
  | a :: b :: r => by
    have := inter_snoc sep x (b :: r)
    simp only [List.intercalate, List.cons_append, List.intersperse_cons_cons, List.flatten_cons, reduceCtorEq, if_false] at this ⊢
    rw [this]
    simp [List.append_assoc]
theorem join_txt (c : Nat → Nat) (k : Nat) : Lib.join ((List.range k).map fun j => Lib.decDigits (c j)) [32] = txt c k := by
  induction k with
  | zero => simp [Lib.join, List.intercalate, txt]
  | succ k ih =>
    unfold Lib.join at ih ⊢
    rw [List.range_succ, List.map_append, List.map_cons, List.map_nil, inter_snoc, ih, txt]
    by_cases h : k = 0
    · subst h; simp [txt]
    · rw [if_neg (by simp [h]), if_pos (by omega)]
theorem txt_len (c : Nat → Nat) (hc : okC c) (k : Nat) (hk : k ≤ 14) : (txt c k).length ≤ 21 * k := by
  induction k with
  | zero => simp [txt]
  | succ k ih =>
    have h1 := ih (by omega)
    have h2 := digits_len (c k) (Nat.lt_trans (hc k (by omega)) (by decide))
    have h3 : (if 0 < k then [(32 : UInt8)] else []).length ≤ 1 := by split <;> simp
    simp only [txt, List.length_append]
    omega
/-- What is shown. -/
abbrev shwS (c : Nat → Nat) : ByteArray := ⟨(txt c 14).toArray⟩
theorem tab_next {w w' : World} (h : Tab10 w) (hb : Below w.heap.size w w') : Tab10 w' := Go.Joins.tab_stays (g := 0) (by kernel_rfl) h hb (Nat.le_refl _)

theorem join_c (c : Nat → Nat) (hc : okC c) (g : Nat) (w : World) (h : Blk w g (sA (upC c 14)) 38) :
    Calls Tryd.prog 13 #[.slice (some ⟨g, 0, none⟩) 14 14, .string ⟨#[32]⟩] w fun e w' => e = .returned (.string (shwS c)) ∧ Below w.heap.size w w' := by
  obtain ⟨xs, hxs⟩ : ∃ xs, xs = (List.range 14).map fun j => dgS (c j) := ⟨_, rfl⟩
  have hl : xs.length = 14 := by rw [hxs, List.length_map, List.length_range]
  have hat : ∀ (j : Nat) x, xs[j]? = some x → j < 14 ∧ x = dgS (c j) := fun j x hx => by
    have hj : j < 14 := by have := (List.getElem?_eq_some_iff.1 hx).1; omega
    rw [hxs, List.getElem?_map, List.getElem?_range hj] at hx
    exact ⟨hj, (Option.some.inj hx).symm⟩
  have e1 : Lib.join (xs.map (·.data.toList)) [32] = txt c 14 := by
    rw [hxs, List.map_map, ← join_txt]
    rfl
  have key := sh_join g 0 14 xs ⟨#[32]⟩ w (fun j x hx => by
    obtain ⟨hj, rfl⟩ := hat j x hx
    rw [Nat.zero_add, h.cell, sA_at _ hj]
    unfold upC
    rw [if_pos hj]) h.lt (by omega) (by omega) (by
      rw [show (⟨#[32]⟩ : ByteArray).data.toList = [32] from rfl, e1]
      have := txt_len c hc 14 (by omega)
      omega)
  rw [show (⟨#[32]⟩ : ByteArray).data.toList = [32] from rfl, e1, hl] at key
  exact key

set_option maxRecDepth 100000 in
set_option maxHeartbeats 8000000 in
theorem show_any (c : Nat → Nat) (hc : okC c) (w : World) (htab : Tab10 w) : Calls Tryd.prog 10 #[cV c] w fun e w' => e = .returned (.string (shwS c)) ∧ Below w.heap.size w w' := by
  have SZ := Lib.hid cSize26
  have HC := Lib.hid hc
  have TB := Lib.hid htab
  clear hc htab
  obtain ⟨x, hx⟩ : ∃ x, x = cA c := ⟨_, rfl⟩
  obtain ⟨zz, hzz⟩ : ∃ zz : Array Value, zz = #[.string ⟨#[]⟩, .string ⟨#[]⟩, .string ⟨#[]⟩, .string ⟨#[]⟩, .string ⟨#[]⟩, .string ⟨#[]⟩, .string ⟨#[]⟩, .string ⟨#[]⟩, .string ⟨#[]⟩, .string ⟨#[]⟩, .string ⟨#[]⟩, .string ⟨#[]⟩, .string ⟨#[]⟩, .string ⟨#[]⟩] := ⟨_, rfl⟩
  obtain ⟨ss, hss⟩ : ∃ ss, ss = shwS c := ⟨_, rfl⟩
  obtain ⟨g, hg⟩ : ∃ g, g = w.heap.size := ⟨_, rfl⟩
  obtain ⟨w1, hw1⟩ : ∃ w1, w1 = w.alloc (.cells x 26) := ⟨_, rfl⟩
  obtain ⟨w2, hw2⟩ : ∃ w2, w2 = w1.alloc (.cells zz 38) := ⟨_, rfl⟩
  have B2 := Lib.hid (show Below w.heap.size w w2 by rw [hw2, hw1]; exact (((Below.refl _ _).alloc (Nat.le_refl _) _).alloc (by simp) _))
  have KX := Lib.hid (show Blk w2 g x 26 by rw [hw2, hw1, hg]; exact (Blk.new _ _ _).alloc _)
  have KZ := Lib.hid (show Blk w2 (g + 1) (sA (upC c 0)) 38 by
    have := Blk.new w1 zz 38
    rw [hzz] at this
    rw [hw2, hzz]
    have e : w1.heap.size = g + 1 := by rw [hw1, hg]; simp
    rw [e] at this
    exact this)
  have HX := Lib.hid hx
  have HS := Lib.hid hss
  have HZ := Lib.hid hzz
  have HW1 := Lib.hid hw1
  have HW2 := Lib.hid hw2
  have HG := Lib.hid hg
  have HG1 := Lib.hid (show g + 1 = w1.heap.size by rw [hw1, hg]; simp)
  show Calls Tryd.prog 10 #[.agg (cA c)] w fun e w' => e = .returned (.string (shwS c)) ∧ Below w.heap.size w w'
  rw [← hx, ← hss]
  clear hx hzz hss hg hw1 hw2
  go_enter Tryd.func10, Tryd.ntmps10
  go_upto_region 1 with fail
  rw [← HW1.out, ← HG.out]
  go_upto_region 2 with fail
  rw [← HZ.out, ← HW2.out, ← HG1.out]
  have LX := Lib.hid (show (Tryd.prog.info? 26).map (·.size) = some x.size by rw [HX.out, cA_size]; exact SZ.out)
  go_wp2_with (first | (refine wpList_val (.agg x) (by rfl) (run_loadVar_of 26 _ rfl g rfl 26 x _ KX.out Tryd.underlying26 rfl LX.out) ?_))
  go_loopw [7] (fun j wr => ∃ k : Nat, k ≤ 14 ∧ j = .int .i64 k ∧ Blk wr (g + 1) (sA (upC c k)) 38 ∧ Below w.heap.size w wr) (fun j _ => (14 - intOf j).toNat)
  case atStart => exact ⟨0, by omega, rfl, KZ.out, B2.out⟩
  case round =>
    obtain ⟨k, hk, rfl, hz, hb⟩ := hrel
    have JZ := Lib.hid hz
    have JB := Lib.hid hb
    clear hz hb
    by_cases hlt : k < 14
    · have hix : ∀ W, (Instr.index 26 (.agg x) (.int .i64 (k : Int))).run Tryd.prog W = .ok (.int .u32 (c k : Nat)) W := fun W => by rw [HX.out]; exact run_index_c 26 Tryd.underlying26 c k W hlt
      have EW := wrap_n64 (a := c k) (Nat.lt_trans (HC.out k hlt) (by decide))
      have CF := Lib.hid (fmt_any (c k) (Nat.lt_trans (HC.out k hlt) (by decide)) wr (tab_next TB.out JB.out))
      generalize hcv : c k = cv at hix EW CF
      obtain ⟨st, hst⟩ : ∃ st, st = dgS cv := ⟨_, rfl⟩
      rw [← hst] at CF
      have HST := Lib.hid (show st = dgS (c k) by rw [hst, hcv])
      clear hst hcv
      go_wp2_with (first | (go_at_call 12; with_reducible refine CF.out.mono ?_; rintro e w3 ⟨rfl, hb3⟩; have Z3 := Lib.hid (JZ.out.below hb3 JZ.out.lt); have B3 := Lib.hid (JB.out.trans (hb3.mono JB.out.size)); have q1 := Z3.out.free k; have q0 := Z3.out.cell k; rw [sA_at _ hlt] at q0; clear hb3))
      have NZ := Lib.hid (show Blk (w3.setCell ⟨g + 1, k, none⟩ (.string st)) (g + 1) (sA (upC c (k + 1))) 38 by
        have := Z3.out.set k (.string st)
        rw [sA_set _ hlt, HST.out, upC_step, ← HST.out] at this
        exact this)
      have NB := Lib.hid (show Below w.heap.size w (w3.setCell ⟨g + 1, k, none⟩ (.string st)) from B3.out.setCell (by show w.heap.size ≤ g + 1; rw [HG.out]; omega) _)
      go_roundw
      case rel => exact ⟨k + 1, by omega, by go_num, NZ.out, NB.out⟩
      case measure => simp [intOf]; omega
    · have hk' : k = 14 := by omega
      subst hk'
      have CJ := Lib.hid (join_c c HC.out (g + 1) wr JZ.out)
      rw [← HS.out] at CJ
      go_wp2_with (first | (go_at_call 13; with_reducible refine CJ.out.mono ?_; rintro e w3 ⟨rfl, hb3⟩))
      go_ret
      exact ⟨rfl, JB.out.trans (hb3.mono JB.out.size)⟩
end Go.Proofs.YtpbdamnlfpfclaaDoor
