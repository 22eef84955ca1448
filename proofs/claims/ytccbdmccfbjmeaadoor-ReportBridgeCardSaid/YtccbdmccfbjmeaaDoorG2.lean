import Derived.Test.YtccbdmccfbjmeaaDoorG1
import Derived.Lib.AppendIntMem
import Derived.Lib.SmallJoins
import Derived.Deep.MidRow
set_option linter.unusedSimpArgs false
set_option linter.unusedVariables false
namespace Go.Proofs.YtccbdmccfbjmeaaDoor
section
/- strconv.FormatUint in decimal digits; the document's digits. -/
open Go.RowKit Go.Sort

/-- A number's digits. -/
abbrev dgS (u : Nat) : ByteArray := ⟨(Lib.decDigits u).toArray⟩
/-- The library's table of powers. -/
abbrev Tab10 (w : World) : Prop := Lib.TabIs Tryd.prog w "internal/strconv.uint64pow10" .u64 Lib.pow10Tab
theorem z82 : ∀ W : World, (zeroValue 82).run Tryd.prog W = .ok (.agg Lib.zeros24) W := fun W => Tryd.zeroValue82 W

set_option maxHeartbeats 8000000 in
set_option maxRecDepth 100000 in
theorem fmt14_any (u : Nat) (hu64 : u < 18446744073709551616) (w : World) (htab : Tab10 w) :
    Calls Tryd.prog 26 #[.int .u64 (u : Nat), .int .i64 10] w fun e w' => e = .returned (.string (dgS u)) ∧ Below w.heap.size w w' := by
  by_cases hs : u < 100
  · have h1 : decide ((u : Int) < 100) = true := by simp; omega
    have h2 : (u : Int) < 100 := by omega
    have E1 : IntKind.i64.wrap (u : Int) = (u : Int) := by simp [IntKind.wrap, IntKind.bits, IntKind.signed]; omega
    go_enter Tryd.func26, Tryd.ntmps26
    go_wp2_with (go_at_call 33; refine (sh_small u hs _).mono ?_; rintro e w' ⟨rfl, rfl⟩)
    go_ret
    exact ⟨rfl, Below.refl _ _⟩
  · have hu1 : 1 ≤ u := by omega
    have hn : Lib.nDigits u ≤ 20 := by have := Lib.numDigits_eq u hu1 hu64; split at this <;> omega
    obtain ⟨nd, hnd⟩ : ∃ nd, nd = Lib.nDigits u := ⟨_, rfl⟩
    have ND := Lib.hid hnd
    rw [← hnd] at hn
    obtain ⟨zs, hzs⟩ : ∃ zs : Array Value, zs = Lib.zeros24 := ⟨_, rfl⟩
    obtain ⟨g, hg⟩ : ∃ g, g = w.heap.size := ⟨_, rfl⟩
    obtain ⟨w1, hw1⟩ : ∃ w1, w1 = w.alloc (.cells zs 82) := ⟨_, rfl⟩
    have SL := Lib.hid (show ∀ W, (Instr.sliceAt 82 (.pointer (some ⟨g, 0, none⟩)) none (some (.int .i64 (nd : Int))) none).run Tryd.prog W = .ok (.slice (some ⟨g, 0, none⟩) nd 24) W from fun W => by
      have hal : Tryd.prog.arrayLen 82 = 24 := by kernel_rfl
      rw [run_sliceAt_array_h W 82 ⟨g, 0, none⟩ (by simp [Program.elem, Tryd.underlying82, hal]) .i64 (nd : Int) (by omega) (by rw [hal]; omega), hal]
      go_simp)
    have H0 := Lib.hid (show Holds (fun (b : UInt8) => Value.int .u8 (b.toNat : Int)) w1 g 0 (Array.replicate nd (0 : UInt8)) by rw [hw1, hzs, hg]; exact Lib.holds_zero0 w 82 nd (by omega))
    have F := Lib.hid (show Calls Tryd.prog 35 #[.slice (some ⟨g, 0, none⟩) nd 24, .int .u64 (u : Nat)] w1 fun e w' => e = .returned (.tuple #[]) ∧ ∃ (n v' : Nat) (dk : Array UInt8), w' = (putRow (fun (b : UInt8) => Value.int .u8 (b.toNat : Int)) w1 g 0 dk).drewN n ∧ Lib.FmtInv nd u 0 v' dk by
      have := sh_format g 0 24 u (Array.replicate nd 0) w1 H0.out (by rw [Array.size_replicate, hnd]; exact Lib.lt_pow_nDigits u) hu64 (by rw [Array.size_replicate]; omega)
      rw [Array.size_replicate] at this
      exact this)
    have T1 := Lib.hid (show Tab10 w1 by rw [hw1]; exact Lib.tabIs_alloc htab _)
    have DG := Lib.hid (show Calls Tryd.prog 34 #[.int .u64 (u : Nat)] w1 fun e w' => e = .returned (.int .i64 (nd : Nat)) ∧ w1 = w' from (sh_digits u hu1 hu64 w1 T1.out).mono fun e w' ⟨q1, q2⟩ => ⟨by rw [q1, hnd], q2.symm⟩)
    have HW := Lib.hid hw1
    have HG := Lib.hid hg
    have HZ := Lib.hid hzs
    have h1 : decide ((u : Int) < 100) = false := by simp; omega
    have h2 : ¬ (u : Int) < 100 := by omega
    clear hzs hg hw1 hnd htab
    go_enter Tryd.func26, Tryd.ntmps26
    go_upto_region 5 with fail
    change Code.wp Tryd.prog _ _ _ (w.alloc (.cells Lib.zeros24 82))
    rw [← HZ.out, ← HW.out, ← HG.out]
    have sl := SL.out
    go_wp2_with (first | (go_at_call 34; refine DG.out.mono ?_; rintro e w2 ⟨rfl, rfl⟩))
    go_at_call 35
    refine F.out.mono ?_
    rintro e w3 ⟨rfl, k, v', dk, rfl, hF⟩
    have CV := Lib.hid (show (convert 58 9 (.slice (some ⟨g, 0, none⟩) nd 24)).run Tryd.prog ((putRow (fun (b : UInt8) => Value.int .u8 (b.toNat : Int)) w1 g 0 dk).drewN k) = .ok (.string (dgS u)) ((putRow (fun (b : UInt8) => Value.int .u8 (b.toNat : Int)) w1 g 0 dk).drewN k) by
      rw [ND.out] at hF
      have h := run_convert_bytes_back (P := Tryd.prog) ((putRow (fun (b : UInt8) => Value.int .u8 (b.toNat : Int)) w1 g 0 dk).drewN k) 58 9 5 ⟨g, 0, none⟩ 24 (Lib.decDigits u) Tryd.underlying58 Tryd.underlying5 Tryd.underlying9 (fun j hj => by
        rw [Lib.row_is_numeral hF j hj, Lib.add_plain, World.cell?_drewN]
        exact cell?_putRow (fun (b : UInt8) => Value.int .u8 (b.toNat : Int)) _ g 0 _ dk H0.out (by rw [hF.size, Array.size_replicate, ND.out]) j (by rw [hF.size]; rw [Lib.decDigits_length] at hj; exact hj))
      rw [Lib.decDigits_length, ← ND.out] at h
      exact h)
    have BL := Lib.hid (show Below w.heap.size w ((putRow (fun (b : UInt8) => Value.int .u8 (b.toNat : Int)) w1 g 0 dk).drewN k) by
      rw [HW.out, HG.out]
      obtain ⟨os, eo⟩ := Lib.fin_at w (.cells zs 82) dk k 0
      rw [eo]
      exact Lib.below_grow w.heap.size w (Nat.le_refl _) k os)
    generalize (putRow (fun (b : UInt8) => Value.int .u8 (b.toNat : Int)) w1 g 0 dk).drewN k = w4 at CV BL ⊢
    have cv := CV.out
    go_wp2
    go_ret
    exact ⟨rfl, BL.out⟩

set_option maxRecDepth 100000 in
theorem fmt_any (u : Nat) (hu64 : u < 18446744073709551616) (w : World) (htab : Tab10 w) :
    Calls Tryd.prog 21 #[.int .u64 (u : Nat), .int .i64 10] w fun e w' => e = .returned (.string (dgS u)) ∧ Below w.heap.size w w' := by
  have H := Lib.hid (fmt14_any u hu64 w htab)
  clear htab
  go_enter Tryd.func21, Tryd.ntmps21
  go_wp2_with (go_at_call 26; refine H.out.mono ?_; rintro e w2 ⟨rfl, hb⟩)
  go_ret
  exact ⟨rfl, hb⟩

theorem digit_str {u : Nat} (h : u < 10) : (⟨#[UInt8.ofNat (48 + u)]⟩ : ByteArray) = dgS u := by
  unfold dgS
  rw [Lib.decDigits_one h]
theorem dgS_size (u : Nat) : (dgS u).size = (Lib.decDigits u).length := by simp [dgS, ByteArray.size]
theorem digits_len (u : Nat) (h : u < 18446744073709551616) : (Lib.decDigits u).length ≤ 20 := by
  rw [Lib.decDigits_length]
  by_cases h1 : 1 ≤ u
  · have := Lib.numDigits_eq u h1 h
    split at this <;> omega
  · rw [Lib.nDigits_small (by omega)]
    omega

set_option maxHeartbeats 4000000 in
set_option maxRecDepth 100000 in
/-- The document's digits. -/
theorem digits_any : ∀ (u : Nat) (hu : u < 18446744073709551616) (w : World), Calls Tryd.prog 6 #[.int .u64 (u : Nat)] w fun e w' => e = .returned (.string (dgS u)) ∧ Below w.heap.size w w' := by
  intro u
  induction u using Nat.strongRecOn with
  | _ u ih =>
    intro hu w
    by_cases h : u < 10
    · have h1 : (u : Int) < 10 := by omega
      have E1 : IntKind.u64.wrap (48 + (u : Int)) = ((48 + u : Nat) : Int) := by simp [IntKind.wrap, IntKind.bits, IntKind.signed]; omega
      have E2 : IntKind.u8.wrap ((48 + u : Nat) : Int) = ((48 + u : Nat) : Int) := by simp [IntKind.wrap, IntKind.bits, IntKind.signed]; omega
      obtain ⟨b, hb⟩ : ∃ b : Nat, b = 48 + u := ⟨_, rfl⟩
      rw [← hb] at E1 E2
      have CV := Lib.hid (show (convert 58 9 (.slice (some ⟨w.heap.size, 0, none⟩) 1 1)).run Tryd.prog (w.alloc (.cells #[.int .u8 (b : Nat)] 5)) = .ok (.string (dgS u)) (w.alloc (.cells #[.int .u8 (b : Nat)] 5)) by
        have hcv := run_convert_bytes_back (P := Tryd.prog) (w.alloc (.cells #[.int .u8 (b : Nat)] 5)) 58 9 5 ⟨w.heap.size, 0, none⟩ 1 [UInt8.ofNat (48 + u)] Tryd.underlying58 Tryd.underlying5 Tryd.underlying9 (fun j hj => by
          obtain rfl : j = 0 := by simpa using hj
          have : (UInt8.ofNat (48 + u)).toNat = b := by rw [hb]; simp; omega
          have e2 : (b : Int) = (48 + (u : Int)) % 256 := by omega
          simp [Lib.add_plain, e2])
        rw [← digit_str h]
        exact hcv)
      have cv := CV.out
      clear hb
      go_enter Tryd.func6, Tryd.ntmps6
      go_wp2
      go_ret
      exact ⟨rfl, (Below.refl _ _).alloc (Nat.le_refl _) _⟩
    · have h1 : ¬ (u : Int) < 10 := by omega
      obtain ⟨q, hq⟩ : ∃ q, q = u / 10 := ⟨_, rfl⟩
      obtain ⟨r, hr⟩ : ∃ r, r = u % 10 := ⟨_, rfl⟩
      have E1 : (u : Int).tdiv 10 = (q : Int) := by rw [Int.tdiv_eq_ediv_of_nonneg (by omega)]; omega
      have E2 : (u : Int).tmod 10 = (r : Int) := by rw [Int.tmod_eq_emod_of_nonneg (by omega)]; omega
      have E3 := wrap_n64 (a := q) (by omega)
      have E4 := wrap_n64 (a := r) (by omega)
      have C1 := Lib.hid (show ∀ W, Calls Tryd.prog 6 #[.int .u64 (q : Nat)] W fun e w' => e = .returned (.string (dgS q)) ∧ Below W.heap.size W w' from fun W => ih q (by omega) (by omega) W)
      have C2 := Lib.hid (show ∀ W, Calls Tryd.prog 6 #[.int .u64 (r : Nat)] W fun e w' => e = .returned (.string (dgS r)) ∧ Below W.heap.size W w' from fun W => ih r (by omega) (by omega) W)
      have EQ := Lib.hid (show dgS q ++ dgS r = dgS u by
        unfold dgS
        rw [Lib.decDigits.eq_def u, dif_neg h, ← hq, hr, Lib.decDigits_one (i := u % 10) (by omega)]
        apply ByteArray.ext
        simp [ByteArray.data_append])
      have LQ := digits_len q (by omega)
      have LR := digits_len r (by omega)
      have hz : ¬ 9223372036854775807 < (dgS q).size + (dgS r).size := by rw [dgS_size, dgS_size]; omega
      generalize dgS q = sq at C1 EQ hz
      generalize dgS r = sr at C2 EQ hz
      clear hq hr ih
      go_enter Tryd.func6, Tryd.ntmps6
      go_wp2_with (first | (go_at_call 6; with_reducible refine (C1.out _).mono ?_; rintro e w2 ⟨rfl, hb2⟩) | (go_at_call 6; with_reducible refine (C2.out _).mono ?_; rintro e w3 ⟨rfl, hb3⟩))
      go_ret
      exact ⟨by rw [← EQ.out]; rfl, hb2.trans (hb3.mono hb2.size)⟩
end
section
/- Show: all counts, with a blank between. -/
open Go.RowKit

/-- Fourteen texts. -/
def sA (f : Nat → ByteArray) : Array Value := ((List.range 14).map fun j => Value.string (f j)).toArray
theorem sA_at (f : Nat → ByteArray) {k : Nat} (h : k < 14) : (sA f)[k]? = some (.string (f k)) := by simp [sA, h]
theorem sA_set (f : Nat → ByteArray) {k : Nat} (h : k < 14) (x : ByteArray) : (sA f).setIfInBounds k (.string x) = sA fun j => if j = k then x else f j := by
  refine Array.ext' (List.ext_getElem? fun i => ?_)
  simp only [sA, Array.toList_setIfInBounds, List.getElem?_set, List.getElem?_map, List.length_map, List.length_range]
  by_cases e : k = i
  · subst e
    simp [h]
  · rw [if_neg e]
    by_cases hi : i < 14
    · simp [hi, show ¬ i = k from fun q => e q.symm]
    · simp [hi]
/-- Those of the first k counts. -/
def upC (c : Nat → Nat) (k : Nat) : Nat → ByteArray := fun j => if j < k then dgS (c j) else ⟨#[]⟩
theorem upC_step (c : Nat → Nat) (k : Nat) : (fun j => if j = k then dgS (c k) else upC c k j) = upC c (k + 1) := by
  funext j
  unfold upC
  by_cases h : j = k
  · subst h; simp
  · rw [if_neg h]
    by_cases h2 : j < k
    · rw [if_pos h2, if_pos (by omega)]
    · rw [if_neg h2, if_neg (by omega)]
/-- The first k counts, with a blank between. -/
def txt (c : Nat → Nat) : Nat → List UInt8
  | 0 => []
  | k + 1 => txt c k ++ (if 0 < k then [32] else []) ++ Lib.decDigits (c k)
theorem inter_snoc (sep x : List UInt8) : ∀ xs : List (List UInt8), sep.intercalate (xs ++ [x]) = (if xs = [] then [] else sep.intercalate xs ++ sep) ++ x
  | [] => by simp [List.intercalate]
  | [a] => by simp [List.intercalate]
  | a :: b :: r => by
    have := inter_snoc sep x (b :: r)
    simp only [List.intercalate, List.cons_append, List.intersperse_cons_cons, List.flatten_cons, reduceCtorEq, if_false] at this ⊢
    rw [this]
    simp [List.append_assoc]
theorem join_txt (c : Nat → Nat) (k : Nat) : Lib.join ((List.range k).map fun j => Lib.decDigits (c j)) [32] = txt c k := by
  induction k with
  | zero => simp [Lib.join, List.intercalate, txt]
  | succ k ih =>
    unfold Lib.join at ih ⊢
    rw [List.range_succ, List.map_append, List.map_cons, List.map_nil, inter_snoc, ih, txt]
    by_cases h : k = 0
    · subst h; simp [txt]
    · rw [if_neg (by simp [h]), if_pos (by omega)]
theorem txt_len (c : Nat → Nat) (hc : okC c) (k : Nat) (hk : k ≤ 14) : (txt c k).length ≤ 21 * k := by
  induction k with
  | zero => simp [txt]
  | succ k ih =>
    have h1 := ih (by omega)
    have h2 := digits_len (c k) (Nat.lt_trans (hc k (by omega)) (by decide))
    have h3 : (if 0 < k then [(32 : UInt8)] else []).length ≤ 1 := by split <;> simp
    simp only [txt, List.length_append]
    omega
/-- What is shown. -/
abbrev shwS (c : Nat → Nat) : ByteArray := ⟨(txt c 14).toArray⟩
theorem tab_next {w w' : World} (h : Tab10 w) (hb : Below w.heap.size w w') : Tab10 w' := Go.Joins.tab_stays (g := 2) (by kernel_rfl) h hb (Nat.le_refl _)

theorem join_c (c : Nat → Nat) (hc : okC c) (g : Nat) (w : World) (h : Blk w g (sA (upC c 14)) 67) :
    Calls Tryd.prog 22 #[.slice (some ⟨g, 0, none⟩) 14 14, .string ⟨#[32]⟩] w fun e w' => e = .returned (.string (shwS c)) ∧ Below w.heap.size w w' := by
  obtain ⟨xs, hxs⟩ : ∃ xs, xs = (List.range 14).map fun j => dgS (c j) := ⟨_, rfl⟩
  have hl : xs.length = 14 := by rw [hxs, List.length_map, List.length_range]
  have hat : ∀ (j : Nat) x, xs[j]? = some x → j < 14 ∧ x = dgS (c j) := fun j x hx => by
    have hj : j < 14 := by have := (List.getElem?_eq_some_iff.1 hx).1; omega
    rw [hxs, List.getElem?_map, List.getElem?_range hj] at hx
    exact ⟨hj, (Option.some.inj hx).symm⟩
  have e1 : Lib.join (xs.map (·.data.toList)) [32] = txt c 14 := by
    rw [hxs, List.map_map, ← join_txt]
    rfl
  have key := sh_join g 0 14 xs ⟨#[32]⟩ w (fun j x hx => by
    obtain ⟨hj, rfl⟩ := hat j x hx
    rw [Nat.zero_add, h.cell, sA_at _ hj]
    unfold upC
    rw [if_pos hj]) h.lt (by omega) (by omega) (by
      rw [show (⟨#[32]⟩ : ByteArray).data.toList = [32] from rfl, e1]
      have := txt_len c hc 14 (by omega)
      omega)
  rw [show (⟨#[32]⟩ : ByteArray).data.toList = [32] from rfl, e1, hl] at key
  exact key

set_option maxRecDepth 100000 in
set_option maxHeartbeats 8000000 in
theorem cshow_any (c : Nat → Nat) (hc : okC c) (w : World) (htab : Tab10 w) : Calls Tryd.prog 10 #[cV c] w fun e w' => e = .returned (.string (shwS c)) ∧ Below w.heap.size w w' := by
  have SZ := Lib.hid cSize30
  have HC := Lib.hid hc
  have TB := Lib.hid htab
  clear hc htab
  obtain ⟨x, hx⟩ : ∃ x, x = cA c := ⟨_, rfl⟩
  obtain ⟨zz, hzz⟩ : ∃ zz : Array Value, zz = #[.string ⟨#[]⟩, .string ⟨#[]⟩, .string ⟨#[]⟩, .string ⟨#[]⟩, .string ⟨#[]⟩, .string ⟨#[]⟩, .string ⟨#[]⟩, .string ⟨#[]⟩, .string ⟨#[]⟩, .string ⟨#[]⟩, .string ⟨#[]⟩, .string ⟨#[]⟩, .string ⟨#[]⟩, .string ⟨#[]⟩] := ⟨_, rfl⟩
  obtain ⟨ss, hss⟩ : ∃ ss, ss = shwS c := ⟨_, rfl⟩
  obtain ⟨g, hg⟩ : ∃ g, g = w.heap.size := ⟨_, rfl⟩
  obtain ⟨w1, hw1⟩ : ∃ w1, w1 = w.alloc (.cells x 30) := ⟨_, rfl⟩
  obtain ⟨w2, hw2⟩ : ∃ w2, w2 = w1.alloc (.cells zz 67) := ⟨_, rfl⟩
  have B2 := Lib.hid (show Below w.heap.size w w2 by rw [hw2, hw1]; exact (((Below.refl _ _).alloc (Nat.le_refl _) _).alloc (by simp) _))
  have KX := Lib.hid (show Blk w2 g x 30 by rw [hw2, hw1, hg]; exact (Blk.new _ _ _).alloc _)
  have KZ := Lib.hid (show Blk w2 (g + 1) (sA (upC c 0)) 67 by
    have := Blk.new w1 zz 67
    rw [hzz] at this
    rw [hw2, hzz]
    have e : w1.heap.size = g + 1 := by rw [hw1, hg]; simp
    rw [e] at this
    exact this)
  have HX := Lib.hid hx
  have HS := Lib.hid hss
  have HZ := Lib.hid hzz
  have HW1 := Lib.hid hw1
  have HW2 := Lib.hid hw2
  have HG := Lib.hid hg
  have HG1 := Lib.hid (show g + 1 = w1.heap.size by rw [hw1, hg]; simp)
  show Calls Tryd.prog 10 #[.agg (cA c)] w fun e w' => e = .returned (.string (shwS c)) ∧ Below w.heap.size w w'
  rw [← hx, ← hss]
  clear hx hzz hss hg hw1 hw2
  go_enter Tryd.func10, Tryd.ntmps10
  go_upto_region 1 with fail
  rw [← HW1.out, ← HG.out]
  go_upto_region 2 with fail
  rw [← HZ.out, ← HW2.out, ← HG1.out]
  have LX := Lib.hid (show (Tryd.prog.info? 30).map (·.size) = some x.size by rw [HX.out, cA_size]; exact SZ.out)
  go_wp2_with (first | (refine wpList_val (.agg x) (by rfl) (run_loadVar_of 30 _ rfl g rfl 30 x _ KX.out Tryd.underlying30 rfl LX.out) ?_))
  go_loopw [7] (fun j wr => ∃ k : Nat, k ≤ 14 ∧ j = .int .i64 k ∧ Blk wr (g + 1) (sA (upC c k)) 67 ∧ Below w.heap.size w wr) (fun j _ => (14 - intOf j).toNat)
  case atStart => exact ⟨0, by omega, rfl, KZ.out, B2.out⟩
  case round =>
    obtain ⟨k, hk, rfl, hz, hb⟩ := hrel
    have JZ := Lib.hid hz
    have JB := Lib.hid hb
    clear hz hb
    by_cases hlt : k < 14
    · have hix : ∀ W, (Instr.index 30 (.agg x) (.int .i64 (k : Int))).run Tryd.prog W = .ok (.int .u32 (c k : Nat)) W := fun W => by rw [HX.out]; exact run_index_c 30 Tryd.underlying30 c k W hlt
      have EW := wrap_n64 (a := c k) (Nat.lt_trans (HC.out k hlt) (by decide))
      have CF := Lib.hid (fmt_any (c k) (Nat.lt_trans (HC.out k hlt) (by decide)) wr (tab_next TB.out JB.out))
      generalize hcv : c k = cv at hix EW CF
      obtain ⟨st, hst⟩ : ∃ st, st = dgS cv := ⟨_, rfl⟩
      rw [← hst] at CF
      have HST := Lib.hid (show st = dgS (c k) by rw [hst, hcv])
      clear hst hcv
      go_wp2_with (first | (go_at_call 21; with_reducible refine CF.out.mono ?_; rintro e w3 ⟨rfl, hb3⟩; have Z3 := Lib.hid (JZ.out.below hb3 JZ.out.lt); have B3 := Lib.hid (JB.out.trans (hb3.mono JB.out.size)); have q1 := Z3.out.free k; have q0 := Z3.out.cell k; rw [sA_at _ hlt] at q0; clear hb3))
      have NZ := Lib.hid (show Blk (w3.setCell ⟨g + 1, k, none⟩ (.string st)) (g + 1) (sA (upC c (k + 1))) 67 by
        have := Z3.out.set k (.string st)
        rw [sA_set _ hlt, HST.out, upC_step, ← HST.out] at this
        exact this)
      have NB := Lib.hid (show Below w.heap.size w (w3.setCell ⟨g + 1, k, none⟩ (.string st)) from B3.out.setCell (by show w.heap.size ≤ g + 1; rw [HG.out]; omega) _)
      go_roundw
      case rel => exact ⟨k + 1, by omega, by go_num, NZ.out, NB.out⟩
      case measure => simp [intOf]; omega
    · have hk' : k = 14 := by omega
      subst hk'
      have CJ := Lib.hid (join_c c HC.out (g + 1) wr JZ.out)
      rw [← HS.out] at CJ
      go_wp2_with (first | (go_at_call 22; with_reducible refine CJ.out.mono ?_; rintro e w3 ⟨rfl, hb3⟩))
      go_ret
      exact ⟨rfl, JB.out.trans (hb3.mono JB.out.size)⟩
end
section
/- What report's small functions answer: decimal digits, a role, a state. -/
open Go.RowKit

/-- The words of the roles, and of the states, lie where the program lays them. -/
def rolesA : Array Value := #[.string ⟨#[100, 105, 115, 97, 98, 108, 101, 100]⟩, .string ⟨#[97, 108, 116, 101, 114, 110, 97, 116, 101]⟩, .string ⟨#[98, 97, 99, 107, 117, 112]⟩, .string ⟨#[114, 111, 111, 116]⟩, .string ⟨#[100, 101, 115, 105, 103, 110, 97, 116, 101, 100]⟩]
def statesA : Array Value := #[.string ⟨#[100, 105, 115, 99, 97, 114, 100, 105, 110, 103]⟩, .string ⟨#[108, 101, 97, 114, 110, 105, 110, 103]⟩, .string ⟨#[102, 111, 114, 119, 97, 114, 100, 105, 110, 103]⟩]
structure Ld (w : World) : Prop where
  tab : Tab10 w
  roles : w.var? Tryd.prog "girder/report.roles" = some rolesA
  states : w.var? Tryd.prog "girder/report.states" = some statesA
theorem Ld.next {w w' : World} (h : Ld w) (hb : Below w.heap.size w w') : Ld w' :=
  ⟨tab_next h.tab hb, Go.Joins.var_stays (g := 0) (by kernel_rfl) h.roles hb (Nat.le_refl _), Go.Joins.var_stays (g := 1) (by kernel_rfl) h.states hb (Nat.le_refl _)⟩
theorem var_cell {w : World} {g : Nat} {n : String} {cs : Array Value} (hg : Tryd.prog.globalNamed n = some g) (h : w.var? Tryd.prog n = some cs) (j : Nat) : w.cell? ⟨g, j, none⟩ = cs[j]? := by
  unfold World.var? at h
  rw [hg] at h
  simp only [Option.bind_some] at h
  split at h
  · rename_i cs' _ _ e
    obtain rfl := Option.some.inj h
    simp [World.cell?, e]
  · cases h
theorem itoa_nat (u : Nat) : (⟨(Lib.itoa (u : Int)).toArray⟩ : ByteArray) = dgS u := by
  unfold Lib.itoa dgS
  rw [if_neg (by omega)]
  rfl

theorem dint_any (u : Nat) (hu : u < 9223372036854775808) (w : World) (htab : Tab10 w) : Calls Tryd.prog 17 #[.int .i64 (u : Int)] w fun e w' => e = .returned (.string (dgS u)) ∧ Below w.heap.size w w' := by
  have H := Lib.hid (show Calls Tryd.prog 23 #[.int .i64 (u : Int), .int .i64 10] w fun e w' => e = .returned (.string (dgS u)) ∧ Below w.heap.size w w' from
    (sh_int (u : Int) (by omega) (by omega) w htab).mono fun e w' ⟨h1, k, os, h2⟩ => ⟨by rw [h1, itoa_nat], by rw [h2]; exact Lib.below_grow _ w (Nat.le_refl _) k os⟩)
  clear htab
  go_enter Tryd.func17, Tryd.ntmps17
  go_wp2_with (go_at_call 23; refine H.out.mono ?_; rintro e w2 ⟨rfl, hb⟩)
  go_ret
  exact ⟨rfl, hb⟩
theorem d16_any (u : Nat) (hu : u < 65536) (w : World) (htab : Tab10 w) : Calls Tryd.prog 13 #[.int .u16 (u : Nat)] w fun e w' => e = .returned (.string (dgS u)) ∧ Below w.heap.size w w' := by
  have H := Lib.hid (show Calls Tryd.prog 23 #[.int .i64 (u : Int), .int .i64 10] w fun e w' => e = .returned (.string (dgS u)) ∧ Below w.heap.size w w' from
    (sh_int (u : Int) (by omega) (by omega) w htab).mono fun e w' ⟨h1, k, os, h2⟩ => ⟨by rw [h1, itoa_nat], by rw [h2]; exact Lib.below_grow _ w (Nat.le_refl _) k os⟩)
  have EW : IntKind.i64.wrap (u : Int) = (u : Int) := by simp [IntKind.wrap, IntKind.bits, IntKind.signed]; omega
  clear htab
  go_enter Tryd.func13, Tryd.ntmps13
  go_wp2_with (go_at_call 23; refine H.out.mono ?_; rintro e w2 ⟨rfl, hb⟩)
  go_ret
  exact ⟨rfl, hb⟩
theorem d32_any (u : Nat) (hu : u < 4294967296) (w : World) (htab : Tab10 w) : Calls Tryd.prog 20 #[.int .u32 (u : Nat)] w fun e w' => e = .returned (.string (dgS u)) ∧ Below w.heap.size w w' := by
  have H := Lib.hid (show Calls Tryd.prog 23 #[.int .i64 (u : Int), .int .i64 10] w fun e w' => e = .returned (.string (dgS u)) ∧ Below w.heap.size w w' from
    (sh_int (u : Int) (by omega) (by omega) w htab).mono fun e w' ⟨h1, k, os, h2⟩ => ⟨by rw [h1, itoa_nat], by rw [h2]; exact Lib.below_grow _ w (Nat.le_refl _) k os⟩)
  have EW : IntKind.i64.wrap (u : Int) = (u : Int) := by simp [IntKind.wrap, IntKind.bits, IntKind.signed]; omega
  clear htab
  go_enter Tryd.func20, Tryd.ntmps20
  go_wp2_with (go_at_call 23; refine H.out.mono ?_; rintro e w2 ⟨rfl, hb⟩)
  go_ret
  exact ⟨rfl, hb⟩

/-- The word of a role, of a state. -/
def roleS (n : Int) : ByteArray := if n = 0 then ⟨#[100, 105, 115, 97, 98, 108, 101, 100]⟩ else if n = 1 then ⟨#[97, 108, 116, 101, 114, 110, 97, 116, 101]⟩ else if n = 2 then ⟨#[98, 97, 99, 107, 117, 112]⟩ else if n = 3 then ⟨#[114, 111, 111, 116]⟩ else if n = 4 then ⟨#[100, 101, 115, 105, 103, 110, 97, 116, 101, 100]⟩ else ⟨#[63]⟩
def stateS (n : Int) : ByteArray := if n = 0 then ⟨#[100, 105, 115, 99, 97, 114, 100, 105, 110, 103]⟩ else if n = 1 then ⟨#[108, 101, 97, 114, 110, 105, 110, 103]⟩ else if n = 2 then ⟨#[102, 111, 114, 119, 97, 114, 100, 105, 110, 103]⟩ else ⟨#[63]⟩

theorem role_any (n : Int) (w : World) (h : Ld w) : Calls Tryd.prog 18 #[.int .i64 n] w fun e w' => e = .returned (.string (roleS n)) ∧ w = w' := by
  have hc := fun j => var_cell (g := 0) (by kernel_rfl) h.roles j
  have C0 : w.cell? ⟨0, 0, none⟩ = some (.string ⟨#[100, 105, 115, 97, 98, 108, 101, 100]⟩) := hc 0
  have C1 : w.cell? ⟨0, 1, none⟩ = some (.string ⟨#[97, 108, 116, 101, 114, 110, 97, 116, 101]⟩) := hc 1
  have C2 : w.cell? ⟨0, 2, none⟩ = some (.string ⟨#[98, 97, 99, 107, 117, 112]⟩) := hc 2
  have C3 : w.cell? ⟨0, 3, none⟩ = some (.string ⟨#[114, 111, 111, 116]⟩) := hc 3
  have C4 : w.cell? ⟨0, 4, none⟩ = some (.string ⟨#[100, 101, 115, 105, 103, 110, 97, 116, 101, 100]⟩) := hc 4
  clear hc h
  by_cases h0 : n < 0
  · have e : roleS n = ⟨#[63]⟩ := by unfold roleS; rw [if_neg (by omega), if_neg (by omega), if_neg (by omega), if_neg (by omega), if_neg (by omega)]
    rw [e]
    go_enter Tryd.func18, Tryd.ntmps18
    go_wp2
    go_ret
    exact ⟨rfl, rfl⟩
  · by_cases h5 : 5 ≤ n
    · have e : roleS n = ⟨#[63]⟩ := by unfold roleS; rw [if_neg (by omega), if_neg (by omega), if_neg (by omega), if_neg (by omega), if_neg (by omega)]
      rw [e]
      go_enter Tryd.func18, Tryd.ntmps18
      go_wp2
      go_ret
      exact ⟨rfl, rfl⟩
    · have hn : n = 0 ∨ n = 1 ∨ n = 2 ∨ n = 3 ∨ n = 4 := by omega
      rcases hn with rfl | rfl | rfl | rfl | rfl
      all_goals
        go_enter Tryd.func18, Tryd.ntmps18
        go_wp2
        go_ret
        exact ⟨rfl, rfl⟩
theorem state_any (n : Int) (w : World) (h : Ld w) : Calls Tryd.prog 19 #[.int .i64 n] w fun e w' => e = .returned (.string (stateS n)) ∧ w = w' := by
  have hc := fun j => var_cell (g := 1) (by kernel_rfl) h.states j
  have C0 : w.cell? ⟨1, 0, none⟩ = some (.string ⟨#[100, 105, 115, 99, 97, 114, 100, 105, 110, 103]⟩) := hc 0
  have C1 : w.cell? ⟨1, 1, none⟩ = some (.string ⟨#[108, 101, 97, 114, 110, 105, 110, 103]⟩) := hc 1
  have C2 : w.cell? ⟨1, 2, none⟩ = some (.string ⟨#[102, 111, 114, 119, 97, 114, 100, 105, 110, 103]⟩) := hc 2
  clear hc h
  by_cases h0 : n < 0
  · have e : stateS n = ⟨#[63]⟩ := by unfold stateS; rw [if_neg (by omega), if_neg (by omega), if_neg (by omega)]
    rw [e]
    go_enter Tryd.func19, Tryd.ntmps19
    go_wp2
    go_ret
    exact ⟨rfl, rfl⟩
  · by_cases h5 : 3 ≤ n
    · have e : stateS n = ⟨#[63]⟩ := by unfold stateS; rw [if_neg (by omega), if_neg (by omega), if_neg (by omega)]
      rw [e]
      go_enter Tryd.func19, Tryd.ntmps19
      go_wp2
      go_ret
      exact ⟨rfl, rfl⟩
    · have hn : n = 0 ∨ n = 1 ∨ n = 2 := by omega
      rcases hn with rfl | rfl | rfl
      all_goals
        go_enter Tryd.func19, Tryd.ntmps19
        go_wp2
        go_ret
        exact ⟨rfl, rfl⟩
end
section
open Go.RowKit
theorem run_build_of {P : Program} {o : Oper} {a : Act} {w : World} (t : TypeId) (parts : List (Nat × Operand)) (ho : o.op = .build t parts.toArray) (vals : List (Nat × Value)) (arr : Array Value)
 (hv : parts.map (fun x => (x.1, a.eval x.2)) = vals) (hb : P.built t vals = some arr) : (execOp a.eval o).run P w = .ok (.value (.agg arr)) w := by
 subst hv
 have e : (Array.map (fun x => (x.1, a.eval x.2)) parts.toArray).toList = parts.map (fun x => (x.1, a.eval x.2)) := by simp
 rw [← e] at hb
 unfold execOp
 simp only [ho, Sem.run_bind, run_build w t _ arr hb, Result.andThen_ok, Sem.run_pure]
theorem wpList_alloc {P : Program} {ops : Array Oper} {Q : Exit → Act → World → Prop} {a : Act} {w : World} {rest : List Oper} {o : Oper} (t : TypeId) (ho : o.op = .alloc t) (hw : Region.wanted o (yielded ops a.tmps) = true) (z : Array Value)
 (hz : ∀ W : World, (zeroValue t).run P W = .ok (.agg z) W) (h : wpList P ops Q rest (a.put o.dst (.pointer (some ⟨w.heap.size, 0, none⟩))) (w.alloc (.cells z t))) : wpList P ops Q (o :: rest) a w := by
 refine BigFrame.wpList_want hw fun K hK => ?_
 unfold Oper.wp execOp
 simp only [ho, Instr.alloc, Sem.run_bind, hz, Result.andThen_ok, newVar, Sem.run_pure]
 exact hK _ _ h
end
section
open Go.RowKit
structure Kb (w0 : World) (l : List (Nat × Array Value × TypeId)) (w : World) : Prop where
 all : ∀ x ∈ l, Blk w x.1 x.2.1 x.2.2
 below : Below w0.heap.size w0 w
 new : ∀ x ∈ l, w0.heap.size ≤ x.1
 nd : (l.map (·.1)).Nodup
def setL (cs : Array Value) : Nat → List Value → Array Value
 | _, [] => cs
 | o, v :: vs => setL (cs.setIfInBounds o v) (o + 1) vs
theorem Blk.setCells {g : Nat} {t : TypeId} : ∀ (vs : List Value) (o : Nat) (cs : Array Value) (w : World), Blk w g cs t → Blk (w.setCells g o vs) g (setL cs o vs) t
 | [], o, cs, w, h => h
 | v :: vs, o, cs, w, h => Blk.setCells vs (o + 1) (cs.setIfInBounds o v) (w.setCell ⟨g, o, none⟩ v) (h.set o v)
theorem Blk.setCellsOther {g b : Nat} {t : TypeId} (hb : b ≠ g) : ∀ (vs : List Value) (o : Nat) (cs : Array Value) (w : World), Blk w g cs t → Blk (w.setCells b o vs) g cs t
 | [], o, cs, w, h => h
 | v :: vs, o, cs, w, h => Blk.setCellsOther hb vs (o + 1) cs (w.setCell ⟨b, o, none⟩ v) (h.other (a := ⟨b, o, none⟩) hb v)
theorem below_setCells {B : Nat} {w0 : World} {g : Nat} (hg : B ≤ g) : ∀ (vs : List Value) (o : Nat) (w : World), Below B w0 w → Below B w0 (w.setCells g o vs)
 | [], o, w, h => h
 | v :: vs, o, w, h => below_setCells hg vs (o + 1) (w.setCell ⟨g, o, none⟩ v) (h.setCell hg _)
section
variable {w0 w w' : World} {l l' : List (Nat × Array Value × TypeId)} {b i : Nat} {cs cs' : Array Value} {t : TypeId}
theorem Kb.nil (w0 : World) : Kb w0 [] w0 := ⟨fun _ h => (by cases h), Below.refl _ _, fun _ h => (by cases h), List.nodup_nil⟩
theorem Kb.at (K : Kb w0 l w) (e : l[i]? = some (b, cs, t)) : Blk w b cs t := K.all _ (List.mem_of_getElem? e)
theorem Kb.cell (K : Kb w0 l w) (e : l[i]? = some (b, cs, t)) {j : Nat} {v : Value} (hv : cs[j]? = some v) : w.cell? ⟨b, j, none⟩ = some v := by rw [(K.at e).cell j]; exact hv
theorem Kb.next (K : Kb w0 l w) (hb : Below w.heap.size w w') : Kb w0 l w' := ⟨fun x hx => (K.all x hx).below hb (K.all x hx).lt, K.below.trans (hb.mono K.below.size), K.new, K.nd⟩
theorem Kb.drew (K : Kb w0 l w) : Kb w0 l w.drew := ⟨fun x hx => (K.all x hx).drew, K.below.drew, K.new, K.nd⟩
theorem Kb.alloc (K : Kb w0 l w) (cs : Array Value) (t : TypeId) : Kb w0 (l ++ [(w.heap.size, cs, t)]) (w.alloc (.cells cs t)) := by
 refine ⟨fun x hx => ?_, K.below.alloc K.below.size _, fun x hx => ?_, ?_⟩
 ·
  rcases List.mem_append.1 hx with hx | hx
  ·
   exact (K.all x hx).alloc _
  ·
   rw [List.mem_singleton.1 hx]; exact Blk.new _ _ _
 ·
  rcases List.mem_append.1 hx with hx | hx
  ·
   exact K.new x hx
  ·
   rw [List.mem_singleton.1 hx]; exact K.below.size
 ·
  rw [List.map_append, List.nodup_append]
  refine ⟨K.nd, by simp, fun x hx y hy => ?_⟩
  obtain ⟨z, hz, rfl⟩ := List.mem_map.1 hx
  have := (K.all z hz).lt
  simp at hy
  omega
theorem Kb.put (K : Kb w0 l w) (e : l[i]? = some (b, cs, t)) (cs' : Array Value) {w' : World} (h1 : Blk w' b cs' t) (h2 : ∀ x ∈ l, x.1 ≠ b → Blk w x.1 x.2.1 x.2.2 → Blk w' x.1 x.2.1 x.2.2) (h3 : Below w0.heap.size w0 w') : Kb w0 (l.set i (b, cs', t)) w' := by
 have hi := (List.getElem?_eq_some_iff.1 e).1
 have hm : (l.set i (b, cs', t)).map (·.1) = l.map (·.1) := by
  rw [List.map_set]
  refine List.ext_getElem? fun j => ?_
  by_cases c : i = j
  ·
   subst c
   rw [List.getElem?_set_self (by simpa using hi), List.getElem?_map, e]
   rfl
  ·
   rw [List.getElem?_set_ne c]
 have hother : ∀ x ∈ l, x.1 ≠ b → Blk w' x.1 x.2.1 x.2.2 := fun x hx hn => h2 x hx hn (K.all x hx)
 have hin : ∀ x ∈ l.set i (b, cs', t), x = (b, cs', t) ∨ (x ∈ l ∧ x.1 ≠ b) := by
  intro x hx
  obtain ⟨j, hj⟩ := List.getElem?_of_mem hx
  by_cases c : i = j
  ·
   subst c
   rw [List.getElem?_set_self hi] at hj
   injection hj with hj
   exact .inl hj.symm
  ·
   rw [List.getElem?_set_ne c] at hj
   refine .inr ⟨List.mem_of_getElem? hj, fun hx1 => c ?_⟩
   have hjl := (List.getElem?_eq_some_iff.1 hj).1
   have a1 : (l.map (·.1))[i]? = some b := by rw [List.getElem?_map, e]; rfl
   have a2 : (l.map (·.1))[j]? = some b := by rw [List.getElem?_map, hj, ← hx1]; rfl
   exact (List.getElem?_inj (by simpa using hi) K.nd).1 (a1.trans a2.symm)
 refine ⟨fun x hx => ?_, h3, fun x hx => ?_, by rw [hm]; exact K.nd⟩
 ·
  rcases hin x hx with rfl | ⟨hx, hn⟩
  ·
   exact h1
  ·
   exact hother x hx hn
 ·
  rcases hin x hx with rfl | ⟨hx, hn⟩
  ·
   exact K.new (b, cs, t) (List.mem_of_getElem? e)
  ·
   exact K.new x hx
theorem Kb.row (K : Kb w0 l w) (e : l[i]? = some (b, cs, t)) (cs' : Array Value) : Kb w0 (l.set i (b, cs', t)) (w.setRow b cs') :=
 K.put e cs' ((K.at e).row cs') (fun _ _ hn hx => hx.rowOther hn cs') (below_setRow K.below (K.new _ (List.mem_of_getElem? e)) cs')
theorem Kb.set (K : Kb w0 l w) (e : l[i]? = some (b, cs, t)) (j : Nat) (v : Value) : Kb w0 (l.set i (b, cs.setIfInBounds j v, t)) (w.setCell ⟨b, j, none⟩ v) :=
 K.put e _ ((K.at e).set j v) (fun _ _ hn hx => hx.other (a := ⟨b, j, none⟩) (fun h => hn h.symm) v) (K.below.setCell (K.new _ (List.mem_of_getElem? e)) _)
theorem Kb.mid (K : Kb w0 l w) (e : l[i]? = some (b, cs, t)) (o : Nat) (vs : List Value) : Kb w0 (l.set i (b, setL cs o vs, t)) (w.setCells b o vs) :=
 K.put e _ (Blk.setCells vs o cs w (K.at e)) (fun x _ hn hx => Blk.setCellsOther (fun h => hn h.symm) vs o x.2.1 w hx) (below_setCells (K.new _ (List.mem_of_getElem? e)) vs o w K.below)
theorem Blk.thereN {w : World} {g : Nat} {cs : Array Value} {t : TypeId} (h : Blk w g cs t) (o n : Nat) (hn : o + n ≤ cs.size) : w.there g o n := fun j hj => ⟨by rw [h.cell]; simp; omega, h.free _⟩
end
section
variable {P : Program} {ops : Array Oper} {Q : Exit → Act → World → Prop} {a : Act} {w w0 : World} {rest : List Oper} {o : Oper} {l : List (Nat × Array Value × TypeId)} {b i : Nat} {cs : Array Value} {t : TypeId}
theorem kb_box (K : Kb w0 l w) (ty : TypeId) (x : Operand) (cs : Array Value) (ho : o.op = .box ty x) (hx : a.eval x = .agg cs) (hw : Region.wanted o (yielded ops a.tmps) = true)
 (h : ∀ b w', b = w.heap.size → Kb w0 (l ++ [(b, cs, ty)]) w' → wpList P ops Q rest (a.put o.dst (.pointer (some ⟨b, 0, none⟩))) w') : wpList P ops Q (o :: rest) a w := by
 refine BigFrame.wpList_want hw fun K' hK => ?_
 unfold Oper.wp execOp
 simp only [ho, hx, Instr.box, Sem.run_bind, newVar, Sem.run_pure]
 exact hK _ _ (h _ _ rfl (K.alloc cs ty))
theorem kb_alloc (K : Kb w0 l w) (ty : TypeId) (z : Array Value) (ho : o.op = .alloc ty) (hz : ∀ W : World, (zeroValue ty).run P W = .ok (.agg z) W) (hw : Region.wanted o (yielded ops a.tmps) = true)
 (h : ∀ b w', b = w.heap.size → Kb w0 (l ++ [(b, z, ty)]) w' → wpList P ops Q rest (a.put o.dst (.pointer (some ⟨b, 0, none⟩))) w') : wpList P ops Q (o :: rest) a w := by
 refine BigFrame.wpList_want hw fun K' hK => ?_
 unfold Oper.wp execOp
 simp only [ho, Instr.alloc, Sem.run_bind, hz, Result.andThen_ok, newVar, Sem.run_pure]
 exact hK _ _ (h _ _ rfl (K.alloc z ty))
theorem kb_row (K : Kb w0 l w) (i : Nat) (e : l[i]? = some (b, cs, t)) (ty : TypeId) (x y : Operand) (cs' : Array Value) (ho : o.op = .store ty x y) (hg : o.guard = none) (hx : a.eval x = .pointer (some ⟨b, 0, none⟩)) (hy : a.eval y = .agg cs')
 (hi : (P.info? ty).map (·.size) = some cs'.size) (hs : cs.size = cs'.size) (h1 : cs'.all (·.oneCell') = true)
 (h : ∀ w', Kb w0 (l.set i (b, cs', t)) w' → wpList P ops Q rest (a.put o.dst undef) w') : wpList P ops Q (o :: rest) a w :=
 wpList_store_row hg ty x y ho b cs' hx hy t cs (K.at e) hi hs h1 (h _ (K.row e cs'))
theorem kb_mid (K : Kb w0 l w) (i : Nat) (e : l[i]? = some (b, cs, t)) (ty : TypeId) (x y : Operand) (j : Nat) (part : Array Value) (ho : o.op = .store ty x y) (hg : o.guard = none) (hx : a.eval x = .pointer (some ⟨b, j, none⟩)) (hy : a.eval y = .agg part)
 (hi : (P.info? ty).map (·.size) = some part.size) (hs : j + part.size ≤ cs.size) (h1 : part.all (·.oneCell') = true) (cs' : Array Value) (hc : setL cs j part.toList = cs')
 (h : ∀ w', Kb w0 (l.set i (b, cs', t)) w' → wpList P ops Q rest (a.put o.dst undef) w') : wpList P ops Q (o :: rest) a w :=
 wpList_store_mid hg ty x y ho b j part hx hy ((K.at e).thereN j part.size hs) hi h1 (h _ (by rw [← hc]; exact K.mid e j part.toList))
theorem kb_set (K : Kb w0 l w) (i : Nat) (e : l[i]? = some (b, cs, t)) (ty : TypeId) (x y : Operand) (j : Nat) (v : Value) (ho : o.op = .store ty x y) (hw : Region.wanted o (yielded ops a.tmps) = true) (hx : a.eval x = .pointer (some ⟨b, j, none⟩)) (hy : a.eval y = v)
 (hrun : (Instr.storeAt ty (.pointer (some ⟨b, j, none⟩)) v).run P w = .ok () (w.setCell ⟨b, j, none⟩ v)) (cs' : Array Value) (hc : cs.setIfInBounds j v = cs')
 (h : ∀ w', Kb w0 (l.set i (b, cs', t)) w' → wpList P ops Q rest (a.put o.dst undef) w') : wpList P ops Q (o :: rest) a w :=
 BigFrame.wpList_want hw fun K' hK => wp_store_cell ty x y ho ⟨b, j, none⟩ v hx hy hrun (hK _ _ (h _ (by rw [← hc]; exact K.set e j v)))
theorem kb_run_set (K : Kb w0 l w) (e : l[i]? = some (b, cs, t)) (ty : TypeId) (j : Nat) (u v : Value) (hu : cs[j]? = some u) (h : ∀ W : World, W.cell? ⟨b, j, none⟩ = some u → W.frozen? ⟨b, j, none⟩ = false → (Instr.storeAt ty (.pointer (some ⟨b, j, none⟩)) v).run P W = .ok () (W.setCell ⟨b, j, none⟩ v)) :
 (Instr.storeAt ty (.pointer (some ⟨b, j, none⟩)) v).run P w = .ok () (w.setCell ⟨b, j, none⟩ v) := h w (K.cell e hu) ((K.at e).free j)
theorem kb_call (K : Kb w0 l w) (f : FuncId) (args : Array Value) (v : Value) (hw : Region.wanted o (yielded ops a.tmps) = true) (hv : (execOp a.eval o).run P w = .ok (.enter f args) w)
 (hc : Calls P f args w fun e w' => e = .returned v ∧ Below w.heap.size w w') (h : ∀ w', Kb w0 l w' → wpList P ops Q rest (a.put o.dst v) w') : wpList P ops Q (o :: rest) a w :=
 BigFrame.wpList_want hw fun K' hK => by
  unfold Oper.wp
  simp only [hv, Oper.upon]
  exact hc.mono fun e w' ⟨he, hb⟩ => by subst he; exact hK _ _ (h w' (K.next hb))
theorem kb_all (K : Kb w0 l w) (i : Nat) (e : l[i]? = some (b, cs, t)) (ty : TypeId) (x : Operand) (ho : o.op = .load ty x) (hx : a.eval x = .pointer (some ⟨b, 0, none⟩)) {d : TypeDesc} (hu : P.underlying ty = some d)
 (hd : (match d with | .struct _ | .array _ _ => true | _ => false) = true) (hi : (P.info? ty).map (·.size) = some cs.size) : (execOp a.eval o).run P w = .ok (.value (.agg cs)) w :=
 run_loadVar_of ty x ho b hx t cs d (K.at e) hu hd hi
theorem kb_part (K : Kb w0 l w) (i : Nat) (e : l[i]? = some (b, cs, t)) (ty : TypeId) (x : Operand) (j : Nat) (part : List Value) (ho : o.op = .load ty x) (hx : a.eval x = .pointer (some ⟨b, j, none⟩)) (hp : ∀ k v, part[k]? = some v → cs[j + k]? = some v) {d : TypeDesc}
 (hu : P.underlying ty = some d) (hd : d.isRow = true) (hi : (P.info? ty).map (·.size) = some part.length) : (execOp a.eval o).run P w = .ok (.value (.agg part.toArray)) w :=
 run_loadPart_of ty x ho b j hx t cs part d (K.at e) hp hu hd hi
theorem part_of {cs : Array Value} {o : Nat} {part : List Value} (h : (cs.toList.drop o).take part.length = part) : ∀ k v, part[k]? = some v → cs[o + k]? = some v := fun k v hv => by
 have hk : k < part.length := (List.getElem?_eq_some_iff.1 hv).1
 rw [← h, List.getElem?_take_of_lt hk, List.getElem?_drop] at hv
 simpa using hv
theorem run_pick_no {P : Program} {o : Oper} {a : Act} {w : World} (c x y : Operand) (v : Value) (ho : o.op = .pick c x y) (hc : a.eval c = .bool false) (hy : a.eval y = v) : (execOp a.eval o).run P w = .ok (.value v) w := by
 unfold execOp
 simp only [ho, hc, hy]
 simp [asBool, Sem.run_pure, Result.andThen_ok]
theorem run_pick_yes {P : Program} {o : Oper} {a : Act} {w : World} (c x y : Operand) (v : Value) (ho : o.op = .pick c x y) (hc : a.eval c = .bool true) (hy : a.eval x = v) : (execOp a.eval o).run P w = .ok (.value v) w := by
 unfold execOp
 simp only [ho, hc, hy]
 simp [asBool, Sem.run_pure, Result.andThen_ok]
end
end
section
open Go.RowKit
def PtrAt (B : Nat) (t : TypeId) (n : Nat) (w : World) (v : Value) (done : Bool) (x : Array Value) : Prop := ∃ c cs, v = .pointer (some ⟨c, 0, none⟩) ∧ B ≤ c ∧ cs.size = n ∧ Blk w c cs t ∧ (done = true → cs = x)
section
variable {B n : Nat} {t : TypeId} {w w' : World} {v : Value} {done : Bool} {x : Array Value}
theorem PtrAt.below (h : PtrAt B t n w v done x) (hb : Below w.heap.size w w') : PtrAt B t n w' v done x := by
 obtain ⟨c, cs, e, hB, hz, hk, hd⟩ := h
 exact ⟨c, cs, e, hB, hz, hk.below hb hk.lt, hd⟩
theorem PtrAt.rowOther {c : Nat} (h : PtrAt B t n w v done x) (hc : v ≠ .pointer (some ⟨c, 0, none⟩)) {m : Array Value} : PtrAt B t n (w.setRow c m) v done x := by
 obtain ⟨k, cs, e, hB, hz, hk, hd⟩ := h
 exact ⟨k, cs, e, hB, hz, hk.rowOther (fun e2 => hc (by rw [e, e2])) m, hd⟩
theorem PtrAt.old (h : PtrAt B t n w v done x) : v ≠ .pointer (some ⟨w.heap.size, 0, none⟩) := by
 obtain ⟨k, cs, rfl, hB, hz, hk, hd⟩ := h
 intro e
 have := hk.lt
 simp at e
end
structure W3 (w1 : World) (t : TypeId) (n : Nat) (x y z : Array Value) (a b c p q r : Bool) (v7 v8 v9 : Value) (w : World) : Prop where
 from1 : Below w1.heap.size w1 w
 p7 : a = true → PtrAt w1.heap.size t n w v7 p x
 p8 : b = true → PtrAt w1.heap.size t n w v8 q y
 p9 : c = true → PtrAt w1.heap.size t n w v9 r z
 d78 : a = true → b = true → v7 ≠ v8
 d79 : a = true → c = true → v7 ≠ v9
 d89 : b = true → c = true → v8 ≠ v9
 o7 : p = true → a = true
 o8 : q = true → b = true
 o9 : r = true → c = true
section
variable {w1 w w' : World} {t : TypeId} {n : Nat} {x y z nil : Array Value} {a b c p q r : Bool} {v7 v8 v9 : Value} {g : Nat} {cs : Array Value}
theorem W3.start (w : World) : W3 w t n x y z false false false false false false v7 v8 v9 w.drew :=
 ⟨(Below.refl _ _).drew, (fun h => Bool.noConfusion h), (fun h => Bool.noConfusion h), (fun h => Bool.noConfusion h), (fun h => Bool.noConfusion h), (fun h => Bool.noConfusion h), (fun h => Bool.noConfusion h), (fun h => Bool.noConfusion h), (fun h => Bool.noConfusion h), (fun h => Bool.noConfusion h)⟩
theorem W3.next (h : W3 w1 t n x y z a b c p q r v7 v8 v9 w) (hb : Below w.heap.size w w') : W3 w1 t n x y z a b c p q r v7 v8 v9 w' :=
 ⟨h.from1.trans (hb.mono h.from1.size), fun hu => (h.p7 hu).below hb, fun hu => (h.p8 hu).below hb, fun hu => (h.p9 hu).below hb, h.d78, h.d79, h.d89, h.o7, h.o8, h.o9⟩
theorem W3.alloc7 (h : W3 w1 t n x y z a b c p q r v7 v8 v9 w) (hn : nil.size = n) (hl : a = false) : W3 w1 t n x y z true b c p q r (.pointer (some ⟨w.heap.size, 0, none⟩)) v8 v9 (w.alloc (.cells nil t)) :=
 ⟨h.from1.alloc h.from1.size _, fun _ => ⟨w.heap.size, nil, rfl, h.from1.size, hn, Blk.new w nil t, fun hd => by rw [h.o7 hd] at hl; cases hl⟩, fun hu => (h.p8 hu).below ((Below.refl _ _).alloc (Nat.le_refl _) _), fun hu => (h.p9 hu).below ((Below.refl _ _).alloc (Nat.le_refl _) _), fun _ hu => fun e => (h.p8 hu).old e.symm, fun _ hu => fun e => (h.p9 hu).old e.symm, h.d89, fun _ => rfl, h.o8, h.o9⟩
theorem W3.store7 (h : W3 w1 t n x y z a b c p q r (.pointer (some ⟨g, 0, none⟩)) v8 v9 w) (ha : a = true) (hx : x.size = n) (hk : Blk w g cs t) (hc : w1.heap.size ≤ g) : W3 w1 t n x y z a b c true q r (.pointer (some ⟨g, 0, none⟩)) v8 v9 (w.setRow g x) :=
 ⟨below_setRow h.from1 hc _, fun _ => ⟨g, x, rfl, hc, hx, hk.row _, fun _ => rfl⟩, fun hu => (h.p8 hu).rowOther (fun e => h.d78 ha hu e.symm), fun hu => (h.p9 hu).rowOther (fun e => h.d79 ha hu e.symm), h.d78, h.d79, h.d89, fun _ => ha, h.o8, h.o9⟩
end
end
end Go.Proofs.YtccbdmccfbjmeaaDoor
