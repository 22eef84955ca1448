import Derived.Test.YtelohoomlgjjmaaDoorG4
import Derived.Test.YtelohoomlgjjmaaDoorG3
import Derived.Shelf.Abstract
import Derived.Laws.StructEq
import Derived.Test.YtelohoomlgjjmaaDoorG1
import Derived.Test.YtelohoomlgjjmaaDoorG2
import Derived.KernelRfl
import Derived.Deep.RegionHeld3
import Derived.IntWalk
import Derived.Below
set_option linter.unusedSimpArgs false
set_option linter.unusedVariables false
namespace Go.Proofs.YtelohoomlgjjmaaDoor
section
/- Frames: what the functions of package frame do that only compute, and the law's own. -/
open Go.RowKit

/-- A frame's cells. -/
abbrev frA (d s : Nat → Nat) (tg : Bool) (pc : Nat) (de : Bool) (vi ty : Nat) (da : ByteArray) : Array Value :=
  #[.int .u8 (d 0 : Nat), .int .u8 (d 1 : Nat), .int .u8 (d 2 : Nat), .int .u8 (d 3 : Nat), .int .u8 (d 4 : Nat), .int .u8 (d 5 : Nat),
    .int .u8 (s 0 : Nat), .int .u8 (s 1 : Nat), .int .u8 (s 2 : Nat), .int .u8 (s 3 : Nat), .int .u8 (s 4 : Nat), .int .u8 (s 5 : Nat),
    .bool tg, .int .u8 (pc : Nat), .bool de, .int .u16 (vi : Nat), .int .u16 (ty : Nat), .string da]

/-- No frame. -/
abbrev nil18 : Array Value :=
  #[.int .u8 0, .int .u8 0, .int .u8 0, .int .u8 0, .int .u8 0, .int .u8 0, .int .u8 0, .int .u8 0, .int .u8 0, .int .u8 0, .int .u8 0, .int .u8 0,
    .bool false, .int .u8 0, .bool false, .int .u16 0, .int .u16 0, .string ⟨#[]⟩]

theorem size52 : (Tryd.prog.info? 42).map (·.size) = some 18 := by kernel_rfl
theorem frA_one (d s : Nat → Nat) (tg : Bool) (pc : Nat) (de : Bool) (vi ty : Nat) (da : ByteArray) : (frA d s tg pc de vi ty da).all (·.oneCell') = true := by simp [Value.oneCell']

/-- Is all well with a frame but for its length? -/
def okF (tg : Bool) (pc : Nat) (de : Bool) (vi ty : Nat) : Bool := if tg then decide (pc ≤ 7) && decide (vi ≤ 4094) else decide (pc = 0) && !de && decide (vi = 0) && decide (ty ≠ 33024)

set_option maxRecDepth 100000 in
set_option maxHeartbeats 1000000 in
theorem mayBe_any (d s : Nat → Nat) (tg : Bool) (pc : Nat) (de : Bool) (vi ty : Nat) (da : ByteArray) (w : World) :
    Calls Tryd.prog 51 #[.agg (frA d s tg pc de vi ty da)] w fun e w' => e = .returned (.bool (okF tg pc de vi ty)) ∧ Below w.heap.size w w' := by
  obtain ⟨arr, harr⟩ : ∃ arr, arr = frA d s tg pc de vi ty da := ⟨_, rfl⟩
  have a12 : arr[12]? = some (.bool tg) := by rw [harr]; rfl
  have a13 : arr[13]? = some (.int .u8 (pc : Nat)) := by rw [harr]; rfl
  have a14 : arr[14]? = some (.bool de) := by rw [harr]; rfl
  have a15 : arr[15]? = some (.int .u16 (vi : Nat)) := by rw [harr]; rfl
  have a16 : arr[16]? = some (.int .u16 (ty : Nat)) := by rw [harr]; rfl
  have a17 : arr[17]? = some (.string da) := by rw [harr]; rfl
  rw [← harr]
  clear harr
  cases tg with
  | true =>
    go_enter Tryd.func51, Tryd.ntmps51
    go_wp2
    all_goals
      go_ret
      exact ⟨ret_bool (by unfold okF; rw [Bool.eq_iff_iff]; simp; omega), (Below.refl _ _).alloc (Nat.le_refl _) _⟩
  | false =>
    cases de with
    | true =>
      go_enter Tryd.func51, Tryd.ntmps51
      go_wp2
      all_goals
        go_ret
        exact ⟨ret_bool (by unfold okF; simp), (Below.refl _ _).alloc (Nat.le_refl _) _⟩
    | false =>
      go_enter Tryd.func51, Tryd.ntmps51
      go_wp2
      all_goals
        go_ret
        exact ⟨ret_bool (by unfold okF; rw [Bool.eq_iff_iff]; simp; omega), (Below.refl _ _).alloc (Nat.le_refl _) _⟩
end
section
/- With and Without. -/
open Go.RowKit

def withS (s : Nat) (p : Int) : Nat := if isPort p = true then s ||| 2 ^ (p - 1).toNat else s
def withoutS (s : Nat) (p : Int) : Nat := if isPort p = true then s &&& (4294967295 - 2 ^ (p - 1).toNat) else s

theorem hasB_bit (s k : Nat) (h : k < 16) : hasB s ((k : Int) + 1) = s.testBit k := by rw [hasB_at s k h, Nat.testBit_eq_decide_div_mod_eq]
theorem withS_lt (s : Nat) (p : Int) (hs : s < 4294967296) : withS s p < 4294967296 := by
  unfold withS
  rcases port_cases p with h | ⟨k, hk, rfl⟩
  · rw [h]; exact hs
  · rw [isPort_at k hk, if_pos rfl, show ((k : Int) + 1 - 1).toNat = k by omega]
    have := pow_k k hk
    exact Nat.or_lt_two_pow (n := 32) hs (by omega)
theorem withoutS_lt (s : Nat) (p : Int) (hs : s < 4294967296) : withoutS s p < 4294967296 := by
  unfold withoutS
  split
  · exact Nat.lt_of_le_of_lt Nat.and_le_left hs
  · exact hs

theorem has_withS (s : Nat) (p q : Int) : hasB (withS s p) q = (hasB s q || (decide (q = p) && isPort p)) := by
  rcases port_cases p with h | ⟨k, hk, rfl⟩
  · unfold withS
    rw [h]
    simp
  · unfold withS
    rw [isPort_at k hk, if_pos rfl, show ((k : Int) + 1 - 1).toNat = k by omega, Bool.and_true]
    rcases port_cases q with h | ⟨j, hj, rfl⟩
    · rw [hasB_no h, hasB_no h]
      have : ¬ q = (k : Int) + 1 := fun e => by rw [e, isPort_at k hk] at h; cases h
      simp [this]
    · rw [hasB_bit _ j hj, hasB_bit _ j hj, Nat.testBit_or, Nat.testBit_two_pow]
      congr 1
      rw [decide_eq_decide]
      omega
theorem testBit_full (k j : Nat) (hk : k < 16) (hj : j < 16) : (4294967295 - 2 ^ k).testBit j = decide (j ≠ k) := by
  have h1 : 2 ^ k < 2 ^ 32 := Nat.pow_lt_pow_right (by omega) (by omega)
  rw [show 4294967295 - 2 ^ k = 2 ^ 32 - (2 ^ k + 1) by omega, Nat.testBit_two_pow_sub_succ h1, Nat.testBit_two_pow]
  simp only [decide_not]
  rw [decide_eq_true (show j < 32 by omega), Bool.true_and]
  congr 1
  rw [decide_eq_decide]
  omega
theorem has_withoutS (s : Nat) (p q : Int) : hasB (withoutS s p) q = (hasB s q && decide (q ≠ p)) := by
  rcases port_cases p with h | ⟨k, hk, rfl⟩
  · unfold withoutS
    rw [h]
    rcases port_cases q with hq | ⟨j, hj, rfl⟩
    · simp [hasB_no hq]
    · have : ((j : Int) + 1) ≠ p := fun e => by rw [← e, isPort_at j hj] at h; cases h
      simp [this]
  · unfold withoutS
    rw [isPort_at k hk, if_pos rfl, show ((k : Int) + 1 - 1).toNat = k by omega]
    rcases port_cases q with h | ⟨j, hj, rfl⟩
    · rw [hasB_no h, hasB_no h]
      rfl
    · rw [hasB_bit _ j hj, hasB_bit _ j hj, Nat.testBit_and, testBit_full k j hk hj]
      congr 1
      rw [decide_eq_decide]
      omega

theorem with_or (s : Nat) (p : Int) : s ||| bitN p = withS s p := by
  unfold withS bitN
  split
  · rfl
  · exact Nat.or_zero s
theorem pwith_any (s : Nat) (p : Int) (w : World) (hs : s < 4294967296) : Calls Tryd.prog 15 #[.int .u32 (s : Nat), .int .i64 p] w fun e w' => e = .returned (.int .u32 (withS s p : Nat)) ∧ w = w' := by
  have R := Lib.hid (show bits .or .u32 (s : Int) (bitN p : Nat) = (withS s p : Nat) by rw [u32_or_nat s _ hs (by have := bitN_lt p; omega), with_or])
  go_enter Tryd.func15, Tryd.ntmps15
  go_wp2_with (go_at_call 36; refine (bit_any _ _).mono ?_; rintro e w' ⟨rfl, rfl⟩)
  go_ret
  exact ⟨ret_num R.out, rfl⟩

theorem without_andNot (s : Nat) (p : Int) (hs : s < 4294967296) : s &&& (4294967295 - bitN p) = withoutS s p := by
  unfold withoutS bitN
  split
  · rfl
  · rw [Nat.sub_zero, show (4294967295 : Nat) = 2 ^ 32 - 1 from rfl, Nat.and_two_pow_sub_one_eq_mod, Nat.mod_eq_of_lt hs]
theorem without_any (s : Nat) (p : Int) (w : World) (hs : s < 4294967296) : Calls Tryd.prog 37 #[.int .u32 (s : Nat), .int .i64 p] w fun e w' => e = .returned (.int .u32 (withoutS s p : Nat)) ∧ w = w' := by
  have R := Lib.hid (show bits .andNot .u32 (s : Int) (bitN p : Nat) = (withoutS s p : Nat) by rw [u32_andNot_nat s _ hs (by have := bitN_lt p; omega), without_andNot s p hs])
  go_enter Tryd.func37, Tryd.ntmps37
  go_wp2_with (go_at_call 36; refine (bit_any _ _).mono ?_; rintro e w' ⟨rfl, rfl⟩)
  go_ret
  exact ⟨ret_num R.out, rfl⟩
end
section
/- Of: a set of some numbers; and the first line of layer 7's statements. -/
open Go.RowKit

/-- The set of some numbers. -/
def ofS (zs : List Int) : Nat := zs.foldl withS 0
theorem ofS_snoc (zs : List Int) (z : Int) : ofS (zs ++ [z]) = withS (ofS zs) z := by simp [ofS]
theorem ofS_lt (zs : List Int) : ofS zs < 65536 := by
  have key : ∀ (l : List Int) (s : Nat), s < 65536 → l.foldl withS s < 65536 := by
    intro l
    induction l with
    | nil => intro s h; exact h
    | cons z l ih =>
      intro s h
      refine ih _ ?_
      unfold withS
      rcases port_cases z with c | ⟨k, hk, rfl⟩
      · rw [c]; exact h
      · rw [isPort_at k hk, if_pos rfl, show ((k : Int) + 1 - 1).toNat = k by omega]
        exact Nat.or_lt_two_pow (n := 16) h (pow_k k hk)
  exact key zs 0 (by omega)
theorem has_ofS (zs : List Int) (q : Int) : hasB (ofS zs) q = (zs.contains q && isPort q) := by
  have key : ∀ (l : List Int) (s : Nat), hasB (l.foldl withS s) q = (hasB s q || (l.contains q && isPort q)) := by
    intro l
    induction l with
    | nil => intro s; simp
    | cons z l ih =>
      intro s
      rw [List.foldl_cons, ih, has_withS, List.contains_cons, Bool.or_assoc]
      congr 1
      by_cases c : q = z
      · subst c
        simp
      · have : (q == z) = false := by simpa using c
        rw [this, decide_eq_false c]
        simp
  unfold ofS
  rw [key]
  have : hasB 0 q = false := by
    rcases port_cases q with c | ⟨k, hk, rfl⟩
    · exact hasB_no c
    · rw [hasB_bit 0 k hk]; simp
  rw [this, Bool.false_or]

/-- A slice of ints that is read. -/
def IntsAt (w : World) (A : Option Addr) (zs : List Int) : Prop :=
  zs = [] ∨ ∃ b off, A = some ⟨b, off, none⟩ ∧ ∀ j z, zs[j]? = some z → w.cell? ⟨b, off + j, none⟩ = some (.int .i64 z)

set_option maxHeartbeats 2000000 in
theorem of_any (A : Option Addr) (c : Nat) (zs : List Int) (w : World) (h : IntsAt w A zs) (hl : zs.length ≤ 1000) : Calls Tryd.prog 50 #[.slice A zs.length c] w fun e w' => e = .returned (.int .u32 (ofS zs : Nat)) ∧ w = w' := by
  obtain ⟨n, hn⟩ : ∃ n, zs.length = n := ⟨_, rfl⟩
  rw [hn]
  have HN := Lib.hid hn
  have H := Lib.hid h
  have hn2 : (n : Int) ≤ 1000 := by omega
  clear h hn hl
  go_enter Tryd.func50, Tryd.ntmps50
  go_wp2
  go_loop [3, 8] (fun t i => ∃ k : Nat, k ≤ n ∧ i = .int .i64 k ∧ t = .int .u32 (ofS (zs.take k) : Nat)) (fun _ i => n - (intOf i).toNat)
  case atStart => exact ⟨0, Nat.zero_le _, rfl, rfl⟩
  case round =>
    obtain ⟨k, hk, rfl, rfl⟩ := hrel
    by_cases hlt : k < n
    · obtain ⟨z, hz⟩ : ∃ z, zs[k]? = some z := ⟨_, List.getElem?_eq_getElem (show k < zs.length by rw [HN.out]; exact hlt)⟩
      rcases H.out with h0 | ⟨b, off, rfl, hc⟩
      · rw [h0] at hz; simp at hz
      have c := hc k z hz
      have HT := Lib.hid (show ofS (zs.take (k + 1)) = withS (ofS (zs.take k)) z by rw [List.take_add_one, hz]; exact ofS_snoc _ _)
      have hlt' : (k : Int) < n := by omega
      have hl := ofS_lt (zs.take k)
      have HL := Lib.hid hl
      clear hc hz hl
      go_wp2_with (go_at_call 15; ((with_reducible refine (pwith_any (ofS (zs.take k)) z _ (by have := HL.out; omega)).mono ?_); rintro e w' ⟨rfl, rfl⟩))
      go_round
      case rel => exact ⟨k + 1, by omega, by go_num, by rw [HT.out]⟩
      case measure => simp [intOf]; omega
    · have hk2 : k = n := by omega
      subst hk2
      have HT := Lib.hid (show zs.take k = zs by rw [← HN.out]; exact List.take_of_length_le (Nat.le_refl _))
      go_wp2
      go_ret
      exact ⟨ret_num (by rw [HT.out]), rfl⟩

theorem ints_new (w : World) (zs : List Int) : IntsAt (w.alloc (.cells (zs.map fun z => Value.int .i64 z).toArray 3)) (some ⟨w.heap.size, 0, none⟩) zs := by
  refine .inr ⟨w.heap.size, 0, rfl, fun j z hz => ?_⟩
  have := (Blk.new w (zs.map fun z => Value.int .i64 z).toArray 3).cell j
  rw [Nat.zero_add, this]
  simp [hz]

theorem sp1 : withS (ofS [1, 3]) 2 = 7 := by decide
theorem sp2 : hasB 7 3 = true := by decide
theorem sp3 : hasB 7 4 = false := by decide
theorem sp4 : (portsL 7).length = 3 := by decide
theorem sp5 : withoutS 7 1 = 6 := by decide
theorem sp6 : withinB (ofS [1]) 7 = true := by decide
end
section
/- What package classify answers: which settings may be; has a frame a VLAN of its own; its VLAN, and what becomes of it. -/
open Go.RowKit
attribute [local irreducible] wpQuiet

/-- A port's settings. -/
abbrev pgA (pv : Nat) (ac : Int) (fi : Bool) : Array Value := #[.int .u16 (pv : Nat), .int .i64 ac, .bool fi]
theorem pgSize : (Tryd.prog.info? 51).map (·.size) = some 3 := by kernel_rfl
theorem pg_one (pv : Nat) (ac : Int) (fi : Bool) : (pgA pv ac fi).all (·.oneCell') = true := by simp [Value.oneCell']

/-- May they be? -/
def pgOk (pv : Nat) (ac : Int) : Bool := decide (1 ≤ pv) && decide (pv ≤ 4094) && decide (0 ≤ ac) && decide (ac ≤ 2)
/-- Has it a VLAN of its own? -/
def ownB (tg : Bool) (vi : Nat) : Bool := tg && decide (vi ≠ 0)
theorem own_any (arr : Array Value) (tg : Bool) (vi : Nat) (a12 : arr[12]? = some (.bool tg)) (a15 : arr[15]? = some (.int .u16 (vi : Nat))) (w : World) :
    Calls Tryd.prog 31 #[.agg arr] w fun e w' => e = .returned (.bool (ownB tg vi)) ∧ Below w.heap.size w w' := by
  have HB := Lib.hid ((Below.refl w.heap.size w).alloc (Nat.le_refl _) (.cells arr 42))
  have e1 : ((vi : Int) != 0) = decide (vi ≠ 0) := by rw [Bool.eq_iff_iff]; simp
  cases tg with
  | true =>
    have R := Lib.hid (show decide (vi ≠ 0) = ownB true vi from rfl)
    obtain ⟨b, hb⟩ : ∃ b : Bool, decide (vi ≠ 0) = b := ⟨_, rfl⟩
    rw [hb] at e1
    have hbR := Lib.hid hb
    clear hb
    go_enter Tryd.func31, Tryd.ntmps31
    go_wp2
    all_goals
      go_ret
      exact ⟨ret_bool (by rw [← R.out, hbR.out]), HB.out⟩
  | false =>
    clear e1
    go_enter Tryd.func31, Tryd.ntmps31
    go_wp2
    go_ret
    exact ⟨rfl, HB.out⟩

/-- Does a port take such frames? -/
def accB (ac : Int) (own : Bool) : Bool := if ac = 1 then own else if ac = 2 then !own else true
theorem accepts_any (pv : Nat) (ac : Int) (fi own : Bool) (w : World) : Calls Tryd.prog 32 #[.agg (pgA pv ac fi), .bool own] w fun e w' => e = .returned (.bool (accB ac own)) ∧ Below w.heap.size w w' := by
  have HB := Lib.hid ((Below.refl w.heap.size w).alloc (Nat.le_refl _) (.cells (pgA pv ac fi) 51))
  by_cases h1 : ac = 1
  · subst h1
    go_enter Tryd.func32, Tryd.ntmps32
    go_wp2
    go_ret
    exact ⟨rfl, HB.out⟩
  · by_cases h2 : ac = 2
    · subst h2
      go_enter Tryd.func32, Tryd.ntmps32
      go_wp2
      go_ret
      exact ⟨rfl, HB.out⟩
    · have e1 : (ac == 1) = false := by simpa using h1
      have e2 : (ac == 2) = false := by simpa using h2
      have R := Lib.hid (show true = accB ac own by unfold accB; rw [if_neg h1, if_neg h2])
      clear h1 h2
      go_enter Tryd.func32, Tryd.ntmps32
      go_wp2
      go_ret
      exact ⟨ret_bool R.out, HB.out⟩
end
section
/- Two addresses are the same just where all six bytes are. -/
open Go.RowKit

def eqMac (f g : Nat → Nat) : Bool := decide (f 0 = g 0) && decide (f 1 = g 1) && decide (f 2 = g 2) && decide (f 3 = g 3) && decide (f 4 = g 4) && decide (f 5 = g 5)

theorem eqMac_self (f : Nat → Nat) : eqMac f f = true := by simp [eqMac]

theorem equal_mac (d : Nat) (t : TypeId) (ht : Tryd.prog.underlying t = some (.array 6 5)) (f g : Nat → Nat) (w : World) :
    (Op.equalIn (d + 2) t (mac f) (mac g)).run Tryd.prog w = .ok (eqMac f g) w := by
  have ha := fun W => run_isAgg_plain (P := Tryd.prog) (t := 5) Tryd.underlying5 rfl W
  obtain ⟨i, hi, _⟩ := info_parts Tryd.info5'
  have hs := fun W => run_sizeOf (P := Tryd.prog) (w := W) hi
  rw [Tryd.cells5] at hs
  have u5 := Tryd.underlying5
  rw [show d + 2 = (d + 1) + 1 from rfl, Op.equalIn]
  simp only [Sem.run_bind, run_underlying ht, Result.andThen_ok]
  simp only [Std.Legacy.Range.forIn_eq_forIn_range', Std.Legacy.Range.size, Nat.sub_zero, Nat.add_sub_cancel, Nat.div_one, List.range'_succ, List.range'_zero, List.forIn_cons, List.forIn_nil]
  go_simp
  simp only [Int.natCast_inj]
  unfold eqMac
  by_cases h0 : f 0 = g 0
  · by_cases h1 : f 1 = g 1
    · by_cases h2 : f 2 = g 2
      · by_cases h3 : f 3 = g 3
        · by_cases h4 : f 4 = g 4
          · by_cases h5 : f 5 = g 5 <;> simp [h0, h1, h2, h3, h4, h5]
          · simp [h0, h1, h2, h3, h4]
        · simp [h0, h1, h2, h3]
      · simp [h0, h1, h2]
    · simp [h0, h1]
  · simp [h0]
end
section
/- A frame is the same as itself. -/
open Go.RowKit

set_option maxRecDepth 100000 in
set_option maxHeartbeats 1000000 in
theorem equal_frame (d s : Nat → Nat) (tg : Bool) (pc : Nat) (de : Bool) (vi ty : Nat) (da : ByteArray) (w : World) :
    (Op.equalIn 10000 42 (.agg (frA d s tg pc de vi ty da)) (.agg (frA d s tg pc de vi ty da))).run Tryd.prog w = .ok true w := by
  have hS : Tryd.prog.underlying 42 = some (.struct (Tryd.prog.fieldsOf 42)) := by kernel_rfl
  have hp : Tryd.prog.stoodInHeld 42 = false := by kernel_rfl
  rw [show (10000 : Nat) = 9999 + 1 from rfl, run_equalIn_agg w 9999 42 _ _ hS hp]
  simp only [Program.fieldsOf, Tryd.underlying42]
  have u5 := Tryd.underlying5
  have u4 := Tryd.underlying4
  have u9 := Tryd.underlying9
  have u40 := Tryd.underlying23
  have e1 : ∀ W, (Op.equalIn 9999 40 (mac d) (mac d)).run Tryd.prog W = .ok true W := fun W => by rw [equal_mac 9997 40 Tryd.underlying40, eqMac_self]
  have e2 : ∀ W, (Op.equalIn 9999 40 (mac s) (mac s)).run Tryd.prog W = .ok true W := fun W => by rw [equal_mac 9997 40 Tryd.underlying40, eqMac_self]
  go_simp
end
section
/- Ingress: a frame's VLAN, and what becomes of it. -/
open Go.RowKit
attribute [local irreducible] wpQuiet

/-- What becomes of it: its settings, whether it has a VLAN of its own, whether there is its VLAN, whether the port is a member. -/
def ingC (ac : Int) (fi own found mem : Bool) : Int := if accB ac own = false then 1 else if found = false then 2 else if fi = true ∧ mem = false then 3 else 0
def ingV (vid : Nat) (c : Int) : Nat := if c = 0 then vid else 0
theorem ret_ing {a b : Nat} {c d : Int} (h : a = b) (g : c = d) : Ending.returned (.tuple #[.int .u16 (a : Nat), .int .i64 c]) = .returned (.tuple #[.int .u16 (b : Nat), .int .i64 d]) := by rw [h, g]

set_option maxRecDepth 100000 in
set_option maxHeartbeats 4000000 in
theorem ingress_any (pv : Nat) (ac : Int) (fi : Bool) (no : Int) (arr : Array Value) (tg : Bool) (vi : Nat) (a12 : arr[12]? = some (.bool tg)) (a15 : arr[15]? = some (.int .u16 (vi : Nat))) (hsz : arr.size = 18)
    (tv : Value) (x : Vl) (hm : x.mem < 4294967296) (found : Bool) (w : World)
    (hget : ∀ W, Below w.heap.size w W → Calls Tryd.prog 16 #[tv, .int .u16 ((if ownB tg vi then vi else pv : Nat) : Nat)] W fun e w' => e = .returned (.tuple #[vlV x, .bool found]) ∧ Below W.heap.size W w') :
    Calls Tryd.prog 11 #[.agg (pgA pv ac fi), .int .i64 no, .agg arr, tv] w fun e w' =>
      e = .returned (.tuple #[.int .u16 (ingV (if ownB tg vi then vi else pv) (ingC ac fi (ownB tg vi) found (hasB x.mem no)) : Nat), .int .i64 (ingC ac fi (ownB tg vi) found (hasB x.mem no))]) ∧ Below w.heap.size w w' := by
  obtain ⟨xv, m, u⟩ := x
  simp only at hm ⊢
  obtain ⟨G, hG⟩ : ∃ G, G = w.heap.size := ⟨_, rfl⟩
  obtain ⟨w1, hw1⟩ : ∃ w1, w1 = (w.alloc (.cells (pgA pv ac fi) 51)).alloc (.cells arr 42) := ⟨_, rfl⟩
  have hb1 : Below w.heap.size w w1 := by rw [hw1]; exact ((Below.refl w.heap.size w).alloc (Nat.le_refl _) _).alloc (by simp) _
  have hp1 : Blk w1 G (pgA pv ac fi) 51 := by rw [hw1, hG]; exact (Blk.new _ _ _).alloc _
  have hf1 : Blk w1 (G + 1) arr 42 := by
    have := Blk.new (w.alloc (.cells (pgA pv ac fi) 51)) arr 42
    rw [hw1, hG]
    simpa using this
  obtain ⟨own, hown⟩ : ∃ own, own = ownB tg vi := ⟨_, rfl⟩
  obtain ⟨vid, hvid⟩ : ∃ vid, vid = (if ownB tg vi then vi else pv : Nat) := ⟨_, rfl⟩
  obtain ⟨has, hhas⟩ : ∃ has, has = hasB m no := ⟨_, rfl⟩
  obtain ⟨acc, hacc⟩ : ∃ acc, acc = accB ac own := ⟨_, rfl⟩
  rw [← hvid] at hget
  rw [← hown, ← hhas, show (if own = true then vi else pv) = vid by rw [hvid, hown]]
  obtain ⟨C, hC⟩ : ∃ C, C = ingC ac fi own found has := ⟨_, rfl⟩
  rw [← hC]
  have HGET := Lib.hid hget
  have HG := Lib.hid hG
  have HW := Lib.hid hw1
  have HB1 := Lib.hid hb1
  have HP := Lib.hid (show ∀ w', Below w1.heap.size w1 w' → Blk w' G (pgA pv ac fi) 51 from fun w' hb => hp1.below hb hp1.lt)
  have HF := Lib.hid (show ∀ w', Below w1.heap.size w1 w' → Blk w' (G + 1) arr 42 from fun w' hb => hf1.below hb hf1.lt)
  have SZ := Lib.hid (show (Tryd.prog.info? 42).map (·.size) = some arr.size by rw [hsz]; exact size52)
  have SZP := Lib.hid pgSize
  have OWN := Lib.hid (show ∀ W : World, Calls Tryd.prog 31 #[.agg arr] W fun e w' => e = .returned (.bool own) ∧ Below W.heap.size W w' from fun W => by rw [hown]; exact own_any arr tg vi a12 a15 W)
  have ACC := Lib.hid (show ∀ W : World, Calls Tryd.prog 32 #[.agg (pgA pv ac fi), .bool own] W fun e w' => e = .returned (.bool acc) ∧ Below W.heap.size W w' from fun W => by rw [hacc]; exact accepts_any pv ac fi own W)
  have HAS := Lib.hid (show ∀ W : World, Calls Tryd.prog 19 #[.int .u32 (m : Nat), .int .i64 no] W fun e w' => e = .returned (.bool has) ∧ W = w' from fun W => by rw [hhas]; exact has_any m no W hm)
  have HC15 := Lib.hid (show ∀ w', Below w1.heap.size w1 w' → w'.cell? ⟨G + 1, 15, none⟩ = some (.int .u16 (vi : Nat)) from fun w' hb => by rw [(hf1.below hb hf1.lt).cell]; exact a15)
  have HC0 := Lib.hid (show ∀ w', Below w1.heap.size w1 w' → w'.cell? ⟨G, 0, none⟩ = some (.int .u16 (pv : Nat)) from fun w' hb => by rw [(hp1.below hb hp1.lt).cell]; rfl)
  have HC2 := Lib.hid (show ∀ w', Below w1.heap.size w1 w' → w'.cell? ⟨G, 2, none⟩ = some (.bool fi) from fun w' hb => by rw [(hp1.below hb hp1.lt).cell]; rfl)
  have HV := Lib.hid (show ((own = true ∧ vid = vi) ∨ (own = false ∧ vid = pv)) from by
    rw [hvid, hown]
    cases ownB tg vi
    · exact .inr ⟨rfl, rfl⟩
    · exact .inl ⟨rfl, rfl⟩)
  have RC := Lib.hid (show C = if acc = false then 1 else if found = false then 2 else if fi = true ∧ has = false then 3 else 0 by rw [hC]; unfold ingC; rw [hacc])
  clear hC hw1 hb1 hp1 hf1 hown hvid hhas hacc hget hG a12 a15 hsz hm
  have key : ∀ (c : Int) (v : Nat) (W : World), c = C → v = ingV vid c → Below w1.heap.size w1 W → Ending.returned (.tuple #[.int .u16 (v : Nat), .int .i64 c]) = .returned (.tuple #[.int .u16 (ingV vid C : Nat), .int .i64 C]) ∧ Below w.heap.size w W := fun c v W h1 h2 h3 => by
    subst h1
    subst h2
    exact ⟨rfl, HB1.out.trans (h3.mono HB1.out.size)⟩
  have KEY := Lib.hid key
  clear key
  go_enter Tryd.func11, Tryd.ntmps11
  go_upto_region 1 with fail
  rw [← HW.out, ← HG.out]
  refine wp_region_quiet (C := Below w1.heap.size w1) (by kernel_rfl) (by kernel_rfl) (Below.refl _ _).drew ?_
  (refine q_val (v := .agg arr) (by rfl) (fun w hC => run_loadVar_of 42 _ rfl (G + 1) rfl 42 arr _ (HF.out w hC) Tryd.underlying42 rfl SZ.out) ?_; (try simp only [Act.put, List.getElem_toArray, List.getElem_cons_succ, List.getElem_cons_zero, List.setIfInBounds_toArray, List.set_cons_zero, List.set_cons_succ]))
  (refine q_call (v := .bool own) 31 #[.agg arr] (by rfl) (fun w hC => by go_simp) (fun w hC => calls_in (OWN.out w) (fun w' hb => hC.trans (hb.mono hC.size))) ?_; (try simp only [Act.put, List.getElem_toArray, List.getElem_cons_succ, List.getElem_cons_zero, List.setIfInBounds_toArray, List.set_cons_zero, List.set_cons_succ]))
  (refine q_val (v := ?_) (by rfl) ?_ ?_; rotate_left; (· (intro w hC; go_simp; try with_reducible rfl)); (try simp only [Act.put, List.getElem_toArray, List.getElem_cons_succ, List.getElem_cons_zero, List.setIfInBounds_toArray, List.set_cons_zero, List.set_cons_succ]))
  (refine q_val (v := ?_) (by rfl) ?_ ?_; rotate_left; (· (intro w hC; have q := HC0.out w hC; go_simp; try with_reducible rfl)); (try simp only [Act.put, List.getElem_toArray, List.getElem_cons_succ, List.getElem_cons_zero, List.setIfInBounds_toArray, List.set_cons_zero, List.set_cons_succ]))
  (refine q_val (v := ?_) (by rfl) ?_ ?_; rotate_left; (· (intro w hC; go_simp; try with_reducible rfl)); (try simp only [Act.put, List.getElem_toArray, List.getElem_cons_succ, List.getElem_cons_zero, List.setIfInBounds_toArray, List.set_cons_zero, List.set_cons_succ]))
  (refine q_val (v := ?_) (by rfl) ?_ ?_; rotate_left; (· (intro w hC; go_simp; try with_reducible rfl)); (try simp only [Act.put, List.getElem_toArray, List.getElem_cons_succ, List.getElem_cons_zero, List.setIfInBounds_toArray, List.set_cons_zero, List.set_cons_succ]))
  refine wpQuiet_nil ?_
  intro w5 hC5
  have K5 := Lib.hid hC5
  clear hC5
  have HXX := Lib.hid (show ∀ (W6 W7 : World) , Below w5.heap.size w5 W6 → W7 = W6.alloc (.cells #[.int .u16 (xv : Nat), .int .u32 (m : Nat), .int .u32 (u : Nat)] 73) → Below w1.heap.size w1 W7 ∧ Blk W7 W6.heap.size #[.int .u16 (xv : Nat), .int .u32 (m : Nat), .int .u32 (u : Nat)] 73 from fun W6 W7 h1 h2 => by
    rw [h2]
    exact ⟨(K5.out.trans (h1.mono K5.out.size)).alloc (Nat.le_trans K5.out.size h1.size) _, Blk.new _ _ _⟩)
  rcases HV.out with ⟨ho, hv⟩ | ⟨ho, hv⟩
  all_goals
    subst ho
    subst hv
    have q15 := HC15.out w5 K5.out
    go_upto_region 4 with fail
    clear q15
    go_upto_region 5 with (go_at_call 16; refine (HGET.out w5 (HB1.out.trans (K5.out.mono HB1.out.size))).mono ?_; rintro e w6 ⟨rfl, hb6⟩)
    obtain ⟨W7, hW7⟩ : ∃ W7, W7 = w6.alloc (.cells #[.int .u16 (xv : Nat), .int .u32 (m : Nat), .int .u32 (u : Nat)] 73) := ⟨_, rfl⟩
    obtain ⟨b7, k7⟩ := HXX.out w6 W7 hb6 hW7
    rw [← hW7]
    obtain ⟨g7, hg7⟩ : ∃ g7, g7 = w6.heap.size := ⟨_, rfl⟩
    rw [← hg7] at k7 ⊢
    clear hW7 hb6 hg7
    have B7 := Lib.hid b7
    have K7 := Lib.hid k7
    have q0 := HC0.out W7 b7
    have q1 : W7.cell? ⟨G, 1, none⟩ = some (.int .i64 ac) := by rw [(HP.out W7 b7).cell]; rfl
    have q2 := HC2.out W7 b7
    clear b7 k7
    cases acc with
    | false =>
      have R := Lib.hid (show (1 : Int) = C by rw [RC.out]; rfl)
      clear RC
      go_wp2_with (go_at_call 32; refine (ACC.out _).mono ?_; rintro e w8 ⟨rfl, hb8⟩; have B8 := Lib.hid hb8; clear hb8)
      go_ret2
      exact KEY.out 1 0 _ R.out rfl (B7.out.trans (B8.out.mono B7.out.size))
    | true =>
      go_upto_region 7 with (go_at_call 32; refine (ACC.out _).mono ?_; rintro e w8 ⟨rfl, hb8⟩)
      have B8 := Lib.hid (B7.out.trans (hb8.mono B7.out.size))
      have q21 : w8.cell? ⟨G, 2, none⟩ = some (.bool fi) := HC2.out w8 B8.out
      have q22 : w8.cell? ⟨g7, 1, none⟩ = some (.int .u32 (m : Nat)) := by rw [(K7.out.below hb8 K7.out.lt).cell]; rfl
      clear hb8 q0 q1 q2
      cases found with
      | false =>
        have R := Lib.hid (show (2 : Int) = C by rw [RC.out]; rfl)
        clear RC
        go_wp2_with fail
        go_ret2
        exact KEY.out 2 0 _ R.out rfl B8.out
      | true =>
        cases fi with
        | false =>
          have R := Lib.hid (show (0 : Int) = C by rw [RC.out]; rfl)
          clear RC
          go_wp2_with fail
          go_ret2
          exact KEY.out 0 _ _ R.out rfl B8.out
        | true =>
          cases has with
          | false =>
            have R := Lib.hid (show (3 : Int) = C by rw [RC.out]; rfl)
            clear RC
            go_wp2_with (go_at_call 19; refine (HAS.out _).mono ?_; rintro e w9 ⟨rfl, rfl⟩)
            go_ret2
            exact KEY.out 3 0 _ R.out rfl B8.out
          | true =>
            have R := Lib.hid (show (0 : Int) = C by rw [RC.out]; rfl)
            clear RC
            go_wp2_with (go_at_call 19; refine (HAS.out _).mono ?_; rintro e w9 ⟨rfl, rfl⟩)
            go_ret2
            exact KEY.out 0 _ _ R.out rfl B8.out
end
section
/- The developers' table of VLANs, whose sets are small: what is found in it. -/
open Go.RowKit

/-- What is found for a number. -/
def findV (vid : Nat) (l : List Vl) : Vl × Bool := if atV vid l < 0 then (⟨0, 0, 0⟩, false) else (l.getD (atV vid l).toNat ⟨0, 0, 0⟩, true)
def Small (l : List Vl) : Prop := ∀ y ∈ l, y.mem < 65536 ∧ y.unt < 65536
theorem findV_small {l : List Vl} (h : Small l) (vid : Nat) : (findV vid l).1.mem < 65536 ∧ (findV vid l).1.unt < 65536 := by
  unfold findV
  split
  · exact ⟨by decide, by decide⟩
  · simp only [List.getD_eq_getElem?_getD]
    cases hg : l[(atV vid l).toNat]? with
    | none => exact ⟨by simp, by simp⟩
    | some y => exact h y (List.mem_of_getElem? hg)
theorem findV_nil (vid : Nat) : findV vid [] = (⟨0, 0, 0⟩, false) := rfl
theorem findV_one (x : Vl) : findV x.vid [x] = (x, true) := by simp [findV, atV]
theorem goodV_small {x : Vl} (h : goodV x = 0) : x.mem < 65536 ∧ x.unt < 65536 := by
  unfold goodV at h
  split at h
  · cases h
  · split at h
    · cases h
    · omega
theorem setV_small {l : List Vl} (h : Small l) (x : Vl) : Small (setV l x) := by
  unfold setV
  split
  · exact h
  · rename_i hg
    have hx := goodV_small (show goodV x = 0 by simpa using hg)
    split
    · intro y hy
      rcases List.mem_or_eq_of_mem_set hy with h1 | h1
      · exact h y h1
      · rw [h1]; exact hx
    · split
      · exact h
      · intro y hy
        simp only [List.mem_append, List.mem_cons, List.not_mem_nil, or_false] at hy
        rcases hy with (h1 | h1) | h1
        · exact h y (List.mem_of_mem_take h1)
        · rw [h1]; exact hx
        · exact h y (List.mem_of_mem_drop h1)

theorem get_find {w : World} {b A B : Nat} {l : List Vl} (vid : Nat) (h : TM w b A B l) :
    Calls Tryd.prog 16 #[.pointer (some ⟨b, 0, none⟩), .int .u16 (vid : Nat)] w fun e w' => e = .returned (.tuple #[vlV (findV vid l).1, .bool (findV vid l).2]) ∧ Below w.heap.size w w' :=
  (get_tm vid h).mono fun e w' ⟨hb, hr⟩ => by
    refine ⟨?_, hb⟩
    rcases hr with ⟨h1, h2⟩ | ⟨k, x, h1, h2, h3⟩
    · rw [h2]; unfold findV; rw [if_pos (by rw [h1]; omega)]; rfl
    · rw [h3]; unfold findV; rw [if_neg (by rw [h1]; omega), h1]; simp [h2]
theorem vl_info : (Tryd.prog.info? 73).map (·.size) = some 3 := by kernel_rfl
theorem get_none (w : World) (vid : Nat) : Calls Tryd.prog 16 #[.pointer none, .int .u16 (vid : Nat)] w fun e w' => e = .returned (.tuple #[vlV ⟨0, 0, 0⟩, .bool false]) ∧ Below w.heap.size w w' := by
  have HB := Lib.hid ((Below.refl w.heap.size w).alloc (Nat.le_refl _) (.cells vlNilA 73))
  have hz := zero48
  go_enter Tryd.func16, Tryd.ntmps16
  go_wp2
  exact bodyPost_ret (v := .tuple #[.agg vlNilA, .bool false]) (results_row_tmp Tryd.results16 _ _ w.heap.size 73 vlNilA _ _ rfl rfl (Blk.new w vlNilA 73) Tryd.underlying73 rfl vl_info) rfl ⟨rfl, HB.out⟩

/-- The table alone. -/
structure OneV (w0 : World) (b A B : Nat) (l : List Vl) (w : World) : Prop where
  tab : TM w b A B l
  low : w0.heap.size ≤ A ∧ A ≤ B ∧ B ≤ w.heap.size
  below : Below w0.heap.size w0 w
section
variable {w0 w w' : World} {b A B : Nat} {l l' : List Vl}
theorem OneV.next (h : OneV w0 b A B l w) (hb : Below w.heap.size w w') : OneV w0 b A B l w' :=
  ⟨h.tab.keep (fun k _ hk => hb.block k (by have := h.low; omega)), ⟨h.low.1, h.low.2.1, by have := h.low; have := hb.size; omega⟩, h.below.trans (hb.mono (by have := h.low; omega))⟩
theorem OneV.after (h : OneV w0 b A B l w) (ht : TM w' b A B l') (hk : KeptO A B w w') : OneV w0 b A B l' w' := by
  have h1 := h.low
  have h2 := hk.size
  exact ⟨ht, ⟨h1.1, h1.2.1, by omega⟩, h.below.trans ((hk.below (by omega)).mono h1.1)⟩
theorem OneV.setCell (h : OneV w0 b A B l w) {a : Addr} (ha : B ≤ a.block) (u : Value) : OneV w0 b A B l (w.setCell a u) :=
  ⟨h.tab.keep (fun k _ hk => Below.heap_setCell w a u k (by omega)), ⟨h.low.1, h.low.2.1, by have := h.low; simpa using this.2.2⟩, h.below.setCell (by have := h.low; omega) u⟩
theorem OneV.start {w1 w2 : World} (hb1 : Below w0.heap.size w0 w1) (ht : TM w2 b w1.heap.size w2.heap.size l) (hb2 : Below w1.heap.size w1 w2) : OneV w0 b w1.heap.size w2.heap.size l w2 :=
  ⟨ht, ⟨hb1.size, hb2.size, Nat.le_refl _⟩, hb1.trans (hb2.mono hb1.size)⟩
end
end
section
/- Loads from the middle of rows; addresses compared. -/
open Go.RowKit

theorem run_loadRange {P : Program} {o : Oper} {a : Act} {w : World} (ty : TypeId) (x : Operand) (ho : o.op = .load ty x) (g j : Nat) (hx : a.eval x = .pointer (some ⟨g, j, none⟩)) (arr : Array Value) (d : TypeDesc) (hr : w.rangeAt g j arr.toList)
    (hu : P.underlying ty = some d) (hd : d.isRow = true) (hi : (P.info? ty).map (·.size) = some arr.size) : (execOp a.eval o).run P w = .ok (.value (.agg arr)) w := by
  unfold execOp
  simp only [ho, hx, Instr.loadAt, Instr.sureAddr, Sem.run_bind, Sem.run_pure, Result.andThen_ok, run_loadVar_mid w g j ty arr.toList d hr hu hd (by simpa using hi), Array.toArray_toList]
theorem eqMac_num {a : Nat} {m : Nat → Nat} (ha : a < 281474976710656) (hm : Six m) : eqMac (byteF a) m = decide (a = numF m 6) := by
  rw [Bool.eq_iff_iff, decide_eq_true_eq]
  unfold eqMac
  simp only [Bool.and_eq_true, decide_eq_true_eq]
  obtain ⟨b0, b1, b2, b3, b4, b5⟩ := byteF_lit a
  obtain ⟨h0, h1, h2, h3, h4, h5⟩ := hm
  rw [b0, b1, b2, b3, b4, b5, numF_lit]
  constructor
  · rintro ⟨⟨⟨⟨⟨c0, c1⟩, c2⟩, c3⟩, c4⟩, c5⟩
    omega
  · intro h
    refine ⟨⟨⟨⟨⟨?_, ?_⟩, ?_⟩, ?_⟩, ?_⟩, ?_⟩ <;> omega
theorem next_ne {α : Type} {key : α → Nat} {l : List α} {k v : Nat} {x : α} (hx : l[k]? = some x) (h : key x ≠ v) (hb : ∀ j y, j < k → l[j]? = some y → key y ≠ v) : ∀ j y, j < k + 1 → l[j]? = some y → key y ≠ v := by
  intro j y hj hy
  by_cases c : j = k
  · subst c
    rw [hx] at hy
    cases hy
    exact h
  · exact hb j y (by omega) hy
end
section
/- Keys of entries as keys of a map. -/
open Go.RowKit

/-- A key by value. -/
abbrev kyA (vid a : Nat) : Array Value := #[.int .u16 (vid : Nat), .int .u8 (byteF a 0 : Nat), .int .u8 (byteF a 1 : Nat), .int .u8 (byteF a 2 : Nat), .int .u8 (byteF a 3 : Nat), .int .u8 (byteF a 4 : Nat), .int .u8 (byteF a 5 : Nat)]
abbrev kyV (vid a : Nat) : Value := .agg (kyA vid a)
/-- A key by its number. -/
def kvK (n : Nat) : Value := kyV (n / 281474976710656) (n % 281474976710656)
theorem kvK_of (vid a : Nat) (h : a < 281474976710656) : kvK (keyN vid a) = kyV vid a := by
  unfold kvK keyN
  rw [show (vid * 281474976710656 + a) / 281474976710656 = vid by omega, show (vid * 281474976710656 + a) % 281474976710656 = a by omega]
theorem key_back (n : Nat) : keyN (n / 281474976710656) (n % 281474976710656) = n := by unfold keyN; omega

theorem ky_chk (b : Bool) (x0 x1 x2 x3 x4 x5 x6 : Int) (w : World) :
    (Instr.checkKey b 10000 63 (.agg #[.int .u16 x0, .int .u8 x1, .int .u8 x2, .int .u8 x3, .int .u8 x4, .int .u8 x5, .int .u8 x6])).run Tryd.prog w = .ok () w := by kernel_rfl
theorem ky_eq (v u : Nat) (f g : Nat → Nat) (w : World) :
    (Op.equalIn 10000 63 (.agg #[.int .u16 (v : Nat), .int .u8 (f 0 : Nat), .int .u8 (f 1 : Nat), .int .u8 (f 2 : Nat), .int .u8 (f 3 : Nat), .int .u8 (f 4 : Nat), .int .u8 (f 5 : Nat)]) (.agg #[.int .u16 (u : Nat), .int .u8 (g 0 : Nat), .int .u8 (g 1 : Nat), .int .u8 (g 2 : Nat), .int .u8 (g 3 : Nat), .int .u8 (g 4 : Nat), .int .u8 (g 5 : Nat)])).run Tryd.prog w = .ok (decide (v = u) && eqMac f g) w := by
  have hS : Tryd.prog.underlying 63 = some (.struct (Tryd.prog.fieldsOf 63)) := by kernel_rfl
  have hp : Tryd.prog.stoodInHeld 63 = false := by kernel_rfl
  rw [show (10000 : Nat) = 9999 + 1 from rfl, run_equalIn_agg w 9999 63 _ _ hS hp]
  simp only [Program.fieldsOf, Tryd.underlying63]
  have u30 := Tryd.underlying23
  have e1 : ∀ W, (Op.equalIn 9999 40 (mac f) (mac g)).run Tryd.prog W = .ok (eqMac f g) W := fun W => equal_mac 9997 40 Tryd.underlying40 f g W
  by_cases h : v = u
  · have hb : (v == u) = true := by simp [h]
    subst h
    simp [Op.eqFields, go_sem, u30, e1]
    cases eqMac f g <;> rfl
  · have hc : ¬ ((v : Int) = (u : Int)) := by omega
    simp [Op.eqFields, go_sem, u30, e1, hc]
    exact fun e => absurd e h
theorem kvK_inj (x y : Nat) (h : kvK x = kvK y) : x = y := by
  unfold kvK at h
  simp only [Value.agg.injEq, Array.mk.injEq, List.cons.injEq, Value.int.injEq, Int.natCast_inj, true_and, and_true] at h
  obtain ⟨hv, h0, h1, h2, h3, h4, h5⟩ := h
  have e : eqMac (byteF (x % 281474976710656)) (byteF (y % 281474976710656)) = true := by unfold eqMac; simp [h0, h1, h2, h3, h4, h5]
  rw [eqMac_num (by omega) (byteF_six _), numF_byteF, decide_eq_true_eq] at e
  omega
theorem ky_decide (x y : Nat) : (decide (x / 281474976710656 = y / 281474976710656) && eqMac (byteF (x % 281474976710656)) (byteF (y % 281474976710656))) = decide (x = y) := by
  rw [eqMac_num (by omega) (byteF_six _), numF_byteF, Bool.eq_iff_iff, Bool.and_eq_true, decide_eq_true_eq, decide_eq_true_eq, decide_eq_true_eq]
  omega
theorem ky_keys : KeyEq Tryd.prog 63 kvK (fun _ => True) :=
  asked_keys Tryd.prog 63 (.struct (Tryd.prog.fieldsOf 63)) kvK _ (by kernel_rfl) (fun b x w _ => ky_chk b _ _ _ _ _ _ _ w) (fun x y => rfl)
    (fun x y w _ _ => by
      have := ky_eq (x / 281474976710656) (y / 281474976710656) (byteF (x % 281474976710656)) (byteF (y % 281474976710656)) w
      rw [ky_decide] at this
      exact this)
    (fun x _ => by simp [kvK, Instr.sameBits]) (fun x y _ _ h => kvK_inj x y h)
end
section
/- Entries of layer 10, and the document's own At. -/
open Go.RowKit
attribute [local irreducible] wpQuiet

/-- An entry: its VLAN, its address as a number, its ports. -/
structure Se where
  vid : Nat
  mac : Nat
  prt : Nat
deriving DecidableEq
def seK (x : Se) : Nat := keyN x.vid x.mac
def seOk (x : Se) : Prop := x.mac < 281474976710656
abbrev seA (x : Se) : Array Value := #[.int .u16 (x.vid : Nat), .int .u8 (byteF x.mac 0 : Nat), .int .u8 (byteF x.mac 1 : Nat), .int .u8 (byteF x.mac 2 : Nat), .int .u8 (byteF x.mac 3 : Nat), .int .u8 (byteF x.mac 4 : Nat), .int .u8 (byteF x.mac 5 : Nat), .int .u32 (x.prt : Nat)]
def seC (x : Se) : List Value := (seA x).toList
abbrev seV (x : Se) : Value := .agg (seA x)
theorem seC_len (x : Se) : (seC x).length = 8 := rfl
theorem seC_one (x : Se) : ∀ u ∈ seC x, u.oneCell' = true := by
  intro u hu
  simp only [seC, List.mem_cons, List.not_mem_nil, or_false] at hu
  rcases hu with rfl | rfl | rfl | rfl | rfl | rfl | rfl | rfl <;> rfl
theorem seA_one (x : Se) : (seA x).all (·.oneCell') = true := by simp [Value.oneCell']
theorem se_mac (x : Se) (j : Nat) (u : Value) (h : (macA (byteF x.mac))[j]? = some u) : (seC x)[1 + j]? = some u := by
  match j, h with
  | 0, h => exact h
  | 1, h => exact h
  | 2, h => exact h
  | 3, h => exact h
  | 4, h => exact h
  | 5, h => exact h
  | j + 6, h => simp at h
end
section
/- The developers' table: a map of its entries. -/
open Go.RowKit
open Go.ChangeMaps (setBlock)

/-- What the map holds for a key. -/
def vvS (x : Se) : Value := .int .u32 (x.prt : Nat)
/-- The developers' table: a block with a map of these entries. -/
def TS (w : World) (b A B : Nat) (l : List Se) : Prop :=
  ∃ (mb : Nat) (L : List (Nat × Se)), (A ≤ b ∧ b < B) ∧ (A ≤ mb ∧ mb < B) ∧ b ≠ mb ∧ Blk w b #[.map (some mb)] 120 ∧ Tb w mb kvK vvS L ∧ RelK seK L l ∧ (∀ x ∈ l, seOk x)
theorem TS.keep {w w' : World} {b A B : Nat} {l : List Se} (h : TS w b A B l) (hk : ∀ k, A ≤ k → k < B → w'.heap[k]? = w.heap[k]?) : TS w' b A B l := by
  obtain ⟨mb, L, h1, h2, h3, h4, h5, h6, h7⟩ := h
  exact ⟨mb, L, h1, h2, h3, (hk b h1.1 h1.2).trans h4, h5.same (hk mb h2.1 h2.2), h6, h7⟩
theorem TS.next {w w' : World} {b A B : Nat} {l : List Se} (h : TS w b A B l) (hB : B ≤ w.heap.size) (hb : Below w.heap.size w w') : TS w' b A B l ∧ KeptO A B w w' :=
  ⟨h.keep (fun k _ hk => hb.block k (by omega)), hb.os, hb.tape, hb.output, hb.size, fun k _ hk => hb.block k hk⟩
theorem TS.turned {w w2 : World} {b A B mb : Nat} {o : Obj} {L' : List (Nat × Se)} {l' : List Se} (h1 : A ≤ b ∧ b < B) (h2 : A ≤ mb ∧ mb < B) (h3 : b ≠ mb) (h4 : Blk w b #[.map (some mb)] 120) (hB : B ≤ w.heap.size)
    (hb : Below w.heap.size w w2) (h5 : Tb (setBlock w2 mb o) mb kvK vvS L') (h6 : RelK seK L' l') (h7 : ∀ x ∈ l', seOk x) : TS (setBlock w2 mb o) b A B l' ∧ KeptO A B w (setBlock w2 mb o) := by
  have hg := setBlock_grown w2 mb o
  refine ⟨⟨mb, L', h1, h2, h3, (h4.below hb (by omega)).grown hg (fun e => h3 (Option.some.inj e)), h5, h6, h7⟩, ?_⟩
  refine ⟨hg.os.trans hb.os, hg.tape.trans hb.tape, hg.output.trans hb.output, Nat.le_trans hb.size hg.size, fun k hk hk2 => ?_⟩
  exact (hg.block k (Nat.lt_of_lt_of_le hk2 hb.size) (fun e => by cases e; omega)).trans (hb.block k hk2)
end
section
/- The document's own Good and Drop of layer 10. -/
open Go.RowKit

/-- May it be? The error's number. -/
def goodS (x : Se) : Int := if x.vid < 1 ∨ 4094 < x.vid then 15 else if resB (byteF x.mac) = true then 6 else if 65535 < x.prt then 14 else 0

/-- Without the one of a key; the error's number. -/
def dropSE (l : List Se) (v : Nat) : Int := if atK seK v l < 0 then 11 else 0
end
section
/- Lists of static entries: how long they are, what they hold; what Get answers. -/
open Go.RowKit

/-- With an entry; the error's number. -/
def setS (l : List Se) (x : Se) : List Se := if goodS x ≠ 0 then l else if 0 ≤ atK seK (seK x) l then l.set (atK seK (seK x) l).toNat x else if 16 ≤ l.length then l else layK seK l x
def setSE (l : List Se) (x : Se) : Int := if goodS x ≠ 0 then goodS x else if 0 ≤ atK seK (seK x) l then 0 else if 16 ≤ l.length then 13 else 0
/-- A key, by value. -/
abbrev keyA (vid a : Nat) : Array Value := #[.int .u16 (vid : Nat), .int .u8 (byteF a 0 : Nat), .int .u8 (byteF a 1 : Nat), .int .u8 (byteF a 2 : Nat), .int .u8 (byteF a 3 : Nat), .int .u8 (byteF a 4 : Nat), .int .u8 (byteF a 5 : Nat)]
abbrev keyV (vid a : Nat) : Value := .agg (keyA vid a)
/-- What Get answers. -/
def GetS (l : List Se) (v : Nat) (e : Ending) : Prop :=
  (atK seK v l = -1 ∧ e = .returned (.tuple #[.int .u32 0, .bool false])) ∨ ∃ (k : Nat) (x : Se), atK seK v l = k ∧ l[k]? = some x ∧ e = .returned (.tuple #[.int .u32 (x.prt : Nat), .bool true])
theorem setS_few (l : List Se) (x : Se) (h : l.length ≤ 16) : (setS l x).length ≤ 16 := by
  unfold setS
  split
  · exact h
  split
  · simpa using h
  split
  · exact h
  · rw [layK_len]; omega
theorem layK_mem {l : List Se} {x y : Se} (h : y ∈ layK seK l x) : y = x ∨ y ∈ l := by
  unfold layK at h
  rcases List.mem_append.1 h with h | h
  · rcases List.mem_append.1 h with h | h
    · exact .inr (List.mem_of_mem_take h)
    · exact .inl (by simpa using h)
  · exact .inr (List.mem_of_mem_drop h)
theorem setS_good {l : List Se} {x : Se} (h : ∀ y ∈ l, seOk y) (hx : seOk x) : ∀ y ∈ setS l x, seOk y := by
  intro y hy
  unfold setS at hy
  split at hy
  · exact h y hy
  split at hy
  · rcases List.mem_or_eq_of_mem_set hy with c | c
    · exact h y c
    · rw [c]; exact hx
  split at hy
  · exact h y hy
  · rcases layK_mem hy with c | c
    · rw [c]; exact hx
    · exact h y c
theorem cutK_good {l : List Se} {v : Nat} (h : ∀ y ∈ l, seOk y) : ∀ y ∈ cutK seK v l, seOk y := by
  intro y hy
  unfold cutK at hy
  split at hy
  · exact h y hy
  · exact h y ((List.eraseIdx_sublist _ _).mem hy)
end
section
/- Regions that draw their order and end in one operation that waits for all others: those only read; no program in sight. -/
open Go.RowKit

/-- For which ones these wait, directly or not, in so many steps. -/
def reach (ops : Array Oper) : Nat → List Nat → List Nat
  | 0, S => S
  | k + 1, S => reach ops k (S ++ S.flatMap (afters ops))
/-- Operation n waits for all ahead of it. -/
def covers (ops : Array Oper) (n : Nat) : Bool := ops.size == n + 1 && (List.range n).all fun i => (reach ops n (afters ops n)).contains i

theorem reach_true {ops : Array Oper} {L : Nat → Bool} (hd : ∀ i, L i = true → ∀ j ∈ afters ops i, L j = true) : ∀ (k : Nat) (S : List Nat), (∀ j ∈ S, L j = true) → ∀ j ∈ reach ops k S, L j = true
  | 0, S, h => h
  | k + 1, S, h => by
    unfold reach
    refine reach_true hd k _ (fun j hj => ?_)
    rcases List.mem_append.1 hj with hj | hj
    · exact h j hj
    · obtain ⟨i, hi, hji⟩ := List.mem_flatMap.1 hj
      exact hd i (h i hi) j hji

section
variable {P : Program} {ops : Array Oper} {Q : Exit → Act → World → Prop}
theorem wp_region_last {id : Nat} {a : Act} {w : World} (n : Nat) (I : (Nat → Bool) → Act → Prop) (hm : P.follows .mixedOrders = true) (hd : dag ops = true) (hc : covers ops n = true) (h0 : I (fun _ => false) a)
    (h : ∀ w5, Below w.heap.size w w5 → (∀ i, i < n → ∀ L a, I L a → L i = false → (∀ j ∈ afters ops i, L j = true) → wpOp P ops Q i (fun a' w' => I (upd L i) a' ∧ w' = w5) a w5) ∧
      (∀ L a, I L a → (∀ i, i < n → L i = true) → wpOp P ops Q n (fun a' w' => Q .normal a' w') a w5)) : (Code.region id ops true).wp P Q a w := by
  unfold covers at hc
  rw [Bool.and_eq_true, beq_iff_eq, List.all_eq_true] at hc
  obtain ⟨hsz, hcov⟩ := hc
  obtain ⟨hs, hl⟩ := h w.drew (Below.refl _ _).drew
  have hall : ∀ L : Nat → Bool, (∀ i, L i = true → ∀ j ∈ afters ops i, L j = true) → (∀ j ∈ afters ops n, L j = true) → ∀ i, i < n → L i = true := fun L hdc hn i hi => by
    have := hcov i (List.mem_range.2 hi)
    exact reach_true hdc n _ hn i (by simpa using this)
  have hup : ∀ (L : Nat → Bool) (i : Nat), (∀ i, L i = true → ∀ j ∈ afters ops i, L j = true) → (∀ j ∈ afters ops i, L j = true) → ∀ k, upd L i k = true → ∀ j ∈ afters ops k, upd L i j = true := fun L i hdc ha k hk j hj => by
    have base : L j = true := by
      by_cases c : k = i
      · exact ha j (c ▸ hj)
      · unfold upd at hk
        rw [if_neg c] at hk
        exact hdc k hk j hj
    unfold upd
    split
    · rfl
    · exact base
  refine wp_region_inv (I := fun L a w' => (∀ i, L i = true → ∀ j ∈ afters ops i, L j = true) ∧ (L n = false → I L a ∧ w' = w.drew) ∧ (L n = true → Q .normal a w')) hm hd
    ⟨fun i h => Bool.noConfusion h, fun _ => ⟨h0, rfl⟩, fun h => Bool.noConfusion h⟩ ?_ ?_
  · rintro i hi L a w' ⟨hdc, hA, hB⟩ hLi haft
    have hLn : L n = false ∨ L n = true := by cases L n <;> simp
    by_cases c : i = n
    · subst c
      obtain ⟨hI, rfl⟩ := hA hLi
      refine wpOp_mono (fun a' w' hq => ?_) (hl L a hI (hall L hdc haft))
      refine ⟨hup L i hdc haft, fun q => ?_, fun _ => hq⟩
      unfold upd at q
      rw [if_pos rfl] at q
      cases q
    · have hin : i < n := by omega
      rcases hLn with q | q
      · obtain ⟨hI, rfl⟩ := hA q
        refine wpOp_mono (fun a' w' hq => ?_) (hs i hin L a hI hLi haft)
        refine ⟨hup L i hdc haft, fun _ => ⟨hq.1, hq.2⟩, fun r => ?_⟩
        unfold upd at r
        rw [if_neg (fun e => c e.symm), q] at r
        cases r
      · have := hall L hdc (hdc n q) i hin
        rw [hLi] at this
        cases this
  · rintro L a w' ⟨hdc, hA, hB⟩ h
    exact hB (h n (by omega))
/-- One that yields nothing. -/
theorem i_skip {i : Nat} {o : Oper} {a : Act} {w : World} {K : Act → World → Prop} (ho : ops[i]? = some o) (w' : World) (hw : Region.wanted o (yielded ops a.tmps) = true) (hv : (execOp a.eval o).run P w = .ok .skip w') (h : K (a.put o.dst undef) w') : wpOp P ops Q i K a w := by
  unfold wpOp
  simp only [ho, hw, if_true, Oper.wp, hv, Oper.upon]
  exact .inl h
end
end
end Go.Proofs.YtelohoomlgjjmaaDoor
