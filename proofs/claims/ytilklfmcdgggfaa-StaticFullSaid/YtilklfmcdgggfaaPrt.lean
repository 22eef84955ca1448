/- A range over a function, for a walk without a fence; with no program in sight. Is a port in a set: the law's own question. Has, and All: the ports of a set, rising. Count and Within. With and Without. Of: a set of some numbers; and the first line of layer 7's statements. As many entries as there may be: the lists. -/
import Derived.RangeFuncNested
import Derived.RangeFuncBound
import Derived.RangeFuncCalls
import Derived.RangeFuncLeaves
import Derived.RangeFuncFrom
import Derived.Shelf.Abstract
import Derived.Shelf.RegionOpen
import Derived.WalkKit
import Derived.OwnWalkIn
import Derived.TacticsInMore
import Derived.LoopNIn
import Derived.LoopIn
import Derived.Lib.Hide
import Derived.Test.YtilklfmcdgggfaaProg
import Derived.Deep.DeepCutAuto
import Derived.IntWalk
import Derived.Laws.BitsAllLaws
import Derived.Test.YtilklfmcdgggfaaBks
import Derived.Lib.BitFns
import Derived.Test.YtilklfmcdgggfaaQuietly
import Derived.Test.YtilklfmcdgggfaaS10d
section
namespace Go.Proofs.Ytilklfmcdgggfaa
open Go.RowKit Go.Shelf

theorem calls_marks {P : Program} {f : FuncId} {fn : Func} {c : Code} {args : Array Value} {w : World} {R : Ending → World → Prop} (hf : P.funcs[f]? = some fn) (hb : fn.body = some c)
    (h : c.wp P (bodyPostM Fence.wide 3 P fn R) { tmps := args ++ Array.replicate (fn.ntmps - args.size) undef, defers := [] } w) : Calls P f args w R :=
  callsIn_wide.1 (callsIn_of_wp_marks (F := Fence.wide) (n := 3) hf hb trivial (wpIn_wide.2 h) rfl)

/-- What a block of cells holds is kept. -/
def KeepsAt (b : Nat) (W W' : World) : Prop := ∀ o, W.heap[b]? = some o → o.isCells = true → W'.heap[b]? = some o
theorem KeepsAt.trans {b : Nat} {A B C : World} (h : KeepsAt b A B) (k : KeepsAt b B C) : KeepsAt b A C := fun o ho hc => k o (h o ho hc) hc
theorem KeepsAt.refl (b : Nat) (W : World) : KeepsAt b W W := fun _ h _ => h
theorem KeepsAt.putObj {b : Nat} (W : World) (l : Nat) (o o' : Obj) (h : W.heap[l]? = some o) (hc : o.isCells = false) : KeepsAt b W (W.putObj l o') := by
  intro x hx hxc
  by_cases e : b = l
  · subst e
    rw [h] at hx
    cases hx
    rw [hc] at hxc
    cases hxc
  · rw [World.putObj_heap_other e]
    exact hx

/-- 'for x := range seq': the rounds go by an invariant. -/
theorem wp_range {α : Type} {P : Program} {g : Operand} {ps : Array Tmp} {assign body : Code} {Q : Exit → Act → World → Prop} {a : Act} {w : World}
    (gf : Nat) (lb : Array Value) (bs : Nat) (hg : a.eval g = .func (.func gf) #[] lb) (eg : Enters P gf) (encs : α → Array Value) (S Sp : List α → Prop) (N : Nat) (hseq : SeqStopsK Fence.wide 2 P gf lb encs (KeepsAt bs) S Sp N w) (hps : ∀ x, (encs x).size = ps.size)
    (I : List α → World → Prop) (Ix : Code → List α → World → Prop) (hI : OwnFrom w.heap.size I) (hIx : ∀ c, OwnFrom w.heap.size (Ix c)) (h0 : I [] w) (a₁ : α → Act)
    (hassign : ∀ (l : Nat) (x : α) (W : World) (K : Act → World → Prop), K (a₁ x) W →
      assign.wpIn (Fence.wide.inRound l) 1 P (Exit.then K (fun _ _ _ => False)) { tmps := (ps.zip (encs x)).foldl (fun t (p, v) => t.setIfInBounds p v) a.tmps, defers := [] } W)
    (hbody : ∀ (l : Nat) (pre : List α) (x : α) (W : World), I pre W → pre.length < N → body.wpIn (Fence.wide.inRound l) 1 P (ownPostK (KeepsAt bs) I Ix (pre ++ [x]) W) (a₁ x) W)
    (hdone : ∀ (D : Nat) (xs : List α) (W : World), w.heap.size ≤ D → S xs → I xs W → W.heap[D]? = some (.deferred (some [])) → Q .normal { a with defers := { target := .collected D, args := #[] } :: a.defers } W)
    (hstop : ∀ (D : Nat) (c : Code) (pre : List α) (W : World), w.heap.size ≤ D → Sp pre → Ix c pre W → W.heap[D]? = some (.deferred (some [])) → c.wp P Q { a with defers := { target := .collected D, args := #[] } :: a.defers } W) :
    (Code.rangeFunc g ps assign body).wp P Q a w :=
  wpIn_wide.1 (wpIn_rangeFunc_ownF (F := Fence.wide) (n := 3) rfl (by omega) (gf := gf) (lb := lb) hg trivial eg hseq (fun h k => KeepsAt.trans h k) (fun W l o o' _ h hc _ => KeepsAt.putObj W l o o' h hc) (Below.refl _ _) hps I Ix hI hIx h0 a₁ hassign hbody hdone
    (fun D c pre W h1 h2 h3 h4 => wpIn_wide.2 (hstop D c pre W h1 h2 h3 h4)))
end Go.Proofs.Ytilklfmcdgggfaa
end
section
namespace Go.Proofs.Ytilklfmcdgggfaa
open Go.RowKit
set_option linter.unusedSimpArgs false

/-- Is a port in a set? -/
def hasB (s : Nat) (p : Int) : Bool := decide (1 ≤ p) && decide (p ≤ 16) && decide (s / 2 ^ (p - 1).toNat % 2 = 1)
theorem hasB_low {s : Nat} {p : Int} (h : p < 1) : hasB s p = false := by
  unfold hasB
  rw [decide_eq_false (by omega)]
  rfl
theorem hasB_high {s : Nat} {p : Int} (h : 16 < p) : hasB s p = false := by
  unfold hasB
  rw [decide_eq_false (show ¬ p ≤ 16 by omega), Bool.and_false, Bool.false_and]
theorem hasB_at (s k : Nat) (h : k < 16) : hasB s ((k : Int) + 1) = decide (s / 2 ^ k % 2 = 1) := by
  unfold hasB
  rw [decide_eq_true (by omega), decide_eq_true (by omega), show ((k : Int) + 1 - 1).toNat = k by omega]
  rfl

theorem ret_b7 {a b : Bool} (h : a = b) : Ending.returned (.bool a) = .returned (.bool b) := by rw [h]

end Go.Proofs.Ytilklfmcdgggfaa
end
section
namespace Go.Proofs.Ytilklfmcdgggfaa
open Go.RowKit Go.Shelf
set_option linter.unusedSimpArgs false
set_option linter.unusedVariables false
attribute [local go_sem] Oper.semAt_some

def isPort (p : Int) : Bool := decide (1 ≤ p) && decide (p ≤ 16)
theorem hasB_no {s : Nat} {p : Int} (h : isPort p = false) : hasB s p = false := by
  unfold hasB
  unfold isPort at h
  rw [h, Bool.false_and]
theorem isPort_at (k : Nat) (h : k < 16) : isPort ((k : Int) + 1) = true := by unfold isPort; rw [decide_eq_true (by omega), decide_eq_true (by omega)]; rfl
theorem port_cases (p : Int) : isPort p = false ∨ ∃ k : Nat, k < 16 ∧ p = (k : Int) + 1 := by
  cases h : isPort p with
  | false => exact .inl rfl
  | true =>
    right
    have hp : 1 ≤ p ∧ p ≤ 16 := by
      unfold isPort at h
      simpa using h
    exact ⟨(p - 1).toNat, by omega, by omega⟩
theorem pow_k (k : Nat) (h : k < 16) : 2 ^ k < 65536 := Nat.pow_lt_pow_right (by omega) h
theorem pow_int (k : Nat) (hk : k < 16) : (2 : Int) ^ k % 4294967296 = ((2 ^ k : Nat) : Int) := by
  have h : (2 : Int) ^ k = ((2 ^ k : Nat) : Int) := by simp
  have := pow_k k hk
  rw [h]
  generalize (2 ^ k : Nat) = n at *
  omega
theorem ret_num {k : IntKind} {a b : Int} (h : a = b) : Ending.returned (.int k a) = .returned (.int k b) := by rw [h]

/-- A port's bit; none of what is no port. -/
def bitN (p : Int) : Nat := if isPort p = true then 2 ^ (p - 1).toNat else 0
theorem bitN_no {p : Int} (h : isPort p = false) : bitN p = 0 := by unfold bitN; rw [h]; rfl
theorem bitN_at (k : Nat) (h : k < 16) : bitN ((k : Int) + 1) = 2 ^ k := by unfold bitN; rw [isPort_at k h, if_pos rfl, show ((k : Int) + 1 - 1).toNat = k by omega]
theorem bitN_lt (p : Int) : bitN p < 65536 := by
  rcases port_cases p with h | ⟨k, hk, rfl⟩
  · rw [bitN_no h]; omega
  · rw [bitN_at k hk]; exact pow_k k hk

theorem bit_any (p : Int) (w : World) : Calls Try.prog 65 #[.int .i64 p] w fun e w' => e = .returned (.int .u32 (bitN p : Nat)) ∧ w = w' := by
  by_cases h1 : p < 1
  · have R := Lib.hid (show ((0 : Nat) : Int) = (bitN p : Nat) by rw [bitN_no (by unfold isPort; rw [decide_eq_false (by omega)]; rfl)])
    have e1 : decide (p < 1) = true := by simpa using h1
    clear h1
    go_enter Try.func65, Try.ntmps65
    go_wp2
    go_ret
    exact ⟨ret_num R.out, rfl⟩
  have e1 : decide (p < 1) = false := by simpa using h1
  by_cases h2 : 16 < p
  · have R := Lib.hid (show ((0 : Nat) : Int) = (bitN p : Nat) by rw [bitN_no (by unfold isPort; rw [decide_eq_false (show ¬ p ≤ 16 by omega), Bool.and_false])])
    have e2 : decide ((16 : Int) < p) = true := by simpa using h2
    clear h1 h2
    go_enter Try.func65, Try.ntmps65
    go_wp2
    go_ret
    exact ⟨ret_num R.out, rfl⟩
  have e2 : decide ((16 : Int) < p) = false := by simp; omega
  obtain ⟨k, rfl⟩ : ∃ k : Nat, p = (k : Int) + 1 := ⟨(p - 1).toNat, by omega⟩
  have hk : k < 16 := by omega
  have hk1 : (0 : Int) ≤ k := by omega
  have hk2 : (k : Int) < 16 := by omega
  have R := Lib.hid (show (2 : Int) ^ k % 4294967296 = (bitN ((k : Int) + 1) : Nat) by rw [bitN_at k hk, pow_int k hk])
  clear h1 h2
  go_enter Try.func65, Try.ntmps65
  go_wp2
  go_ret
  exact ⟨ret_num R.out, rfl⟩

theorem and_pow (s k : Nat) (hk : k < 16) : (s &&& 2 ^ k = 0) ↔ s / 2 ^ k % 2 = 0 := by
  have key : (s &&& 2 ^ k = 0) ↔ s.testBit k = false := by
    constructor
    · intro h
      have := congrArg (fun x => x.testBit k) h
      simpa [Nat.testBit_and, Nat.testBit_two_pow] using this
    · intro h
      apply Nat.eq_of_testBit_eq
      intro i
      rw [Nat.testBit_and, Nat.testBit_two_pow, Nat.zero_testBit]
      by_cases e : k = i
      · subst e
        rw [h]
        rfl
      · rw [decide_eq_false e, Bool.and_false]
  rw [key, Nat.testBit_eq_decide_div_mod_eq, decide_eq_false_iff_not]
  omega
theorem has_eq (s : Nat) (p : Int) : (s &&& bitN p != 0) = hasB s p := by
  rcases port_cases p with h | ⟨k, hk, rfl⟩
  · rw [hasB_no h, bitN_no h]
    simp
  · rw [bitN_at k hk, hasB_at s k hk, Bool.eq_iff_iff, bne_iff_ne, decide_eq_true_eq, ne_eq, and_pow s k hk]
    omega

/-- The ports of a set among the first k; all of them. -/
def upto (s k : Nat) : List Int := ((List.range k).map fun j : Nat => (j : Int) + 1).filter (hasB s)
def portsL (s : Nat) : List Int := upto s 16
theorem upto_yes {s k : Nat} (h : hasB s ((k : Int) + 1) = true) : upto s (k + 1) = upto s k ++ [(k : Int) + 1] := by
  unfold upto
  rw [List.range_succ, List.map_append, List.filter_append]
  simp [h]
theorem upto_no {s k : Nat} (h : hasB s ((k : Int) + 1) = false) : upto s (k + 1) = upto s k := by
  unfold upto
  rw [List.range_succ, List.map_append, List.filter_append]
  simp [h]
theorem upto_prefix (s : Nat) : ∀ (k n : Nat), k ≤ n → upto s k <+: upto s n := by
  intro k n h
  induction n with
  | zero => rw [show k = 0 by omega]; exact List.prefix_refl _
  | succ n ih =>
    rcases Nat.eq_or_lt_of_le h with rfl | c
    · exact List.prefix_refl _
    · refine (ih (by omega)).trans ?_
      cases q : hasB s ((n : Int) + 1) with
      | true => rw [upto_yes q]; exact List.prefix_append _ _
      | false => rw [upto_no q]; exact List.prefix_refl _
theorem upto_len (s k : Nat) : (upto s k).length ≤ k := by
  unfold upto
  exact Nat.le_trans (List.length_filter_le _ _) (by simp)

end Go.Proofs.Ytilklfmcdgggfaa
end
section
namespace Go.Proofs.Ytilklfmcdgggfaa
open Go.RowKit Go.Shelf
set_option linter.unusedSimpArgs false
set_option linter.unusedVariables false
attribute [local go_sem] Oper.semAt_some

theorem grown_below' {a b : World} {row : Option Nat} {B : Nat} (h : a.grownBy b row) (hr : ∀ k, row = some k → B ≤ k) (hB : B ≤ a.heap.size) : Below B a b :=
  ⟨h.os, h.tape, h.output, h.size, fun i hi => h.block i (by omega) (fun q => by have := hr i q.symm; omega)⟩
theorem kn_own {β : Type} {w0 : World} {B : Nat} (hB : w0.heap.size ≤ B) (f : β → List (Nat × Array Value × TypeId)) : OwnFrom B (fun s W => Kn w0 (f s) W) := by
  intro s W W' row h hg hr
  refine ⟨fun x hx => (h.all x hx).grown hg (fun e => ?_), h.below.trans (grown_below' hg (fun r e => Nat.le_trans hB (hr r e).1) h.below.size)⟩
  obtain ⟨-, o, ho, hc⟩ := hr _ e.symm
  have := h.all x hx
  unfold Blk at this
  rw [this] at ho
  cases ho
  cases hc
theorem keepsAt_setCell {b : Nat} (W : World) (a : Addr) (h : b ≠ a.block) (u : Value) : KeepsAt b W (W.setCell a u) := fun o ho _ => (Below.heap_setCell W a u b h).trans ho
theorem int_i64 {a b : Int} (h : a = b) : Value.int .i64 a = .int .i64 b := by rw [h]

/-- Bits of a number below 65536. -/
def ones : Nat → Nat → Nat
  | 0, _ => 0
  | k + 1, s => ones k s + s / 2 ^ k % 2
theorem upto_ones (s : Nat) : ∀ k, k ≤ 16 → (upto s k).length = ones k s := by
  intro k
  induction k with
  | zero => intro _; rfl
  | succ k ih =>
    intro h
    have e := hasB_at s k (by omega)
    cases q : hasB s ((k : Int) + 1) with
    | true =>
      rw [upto_yes q, List.length_append, ih (by omega), ones]
      rw [q] at e
      have := of_decide_eq_true e.symm
      rw [this]
      rfl
    | false =>
      rw [upto_no q, ih (by omega), ones]
      rw [q] at e
      have := of_decide_eq_false e.symm
      omega
theorem pop8_ones : ∀ n : Fin 256, Lib.pop8 (n.val : Int) = (ones 8 n.val : Nat) := by decide +kernel
theorem dig_low (s k : Nat) (h : k < 8) : s % 256 / 2 ^ k % 2 = s / 2 ^ k % 2 := by
  have := Nat.testBit_mod_two_pow s 8 k
  rw [decide_eq_true h, Bool.true_and, Nat.testBit_eq_decide_div_mod_eq, Nat.testBit_eq_decide_div_mod_eq, decide_eq_decide] at this
  rw [show (256 : Nat) = 2 ^ 8 from rfl]
  generalize s % 2 ^ 8 / 2 ^ k = a at *
  generalize s / 2 ^ k = b at *
  omega
theorem ones_low (s : Nat) : ∀ k, k ≤ 8 → ones k (s % 256) = ones k s := by
  intro k
  induction k with
  | zero => intro _; rfl
  | succ k ih =>
    intro h
    rw [ones, ones, ih (by omega), dig_low s k (by omega)]
theorem ones_high (s : Nat) : ∀ k, k ≤ 8 → ones (8 + k) s = ones 8 (s % 256) + ones k (s / 256 % 256) := by
  intro k
  induction k with
  | zero => intro _; exact (ones_low s 8 (by omega)).symm
  | succ k ih =>
    intro h
    have e : s / 2 ^ (8 + k) = s / 256 / 2 ^ k := by rw [Nat.div_div_eq_div_mul, Nat.pow_add]
    rw [show 8 + (k + 1) = (8 + k) + 1 by omega, ones, ih (by omega), show ones (k + 1) (s / 256 % 256) = ones k (s / 256 % 256) + s / 256 % 256 / 2 ^ k % 2 from rfl, dig_low _ k (by omega), e, Nat.add_assoc]
theorem ones_split (s : Nat) : ones 16 s = ones 8 (s % 256) + ones 8 (s / 256 % 256) := ones_high s 8 (by omega)
theorem count_ones (s : Nat) : Lib.pop8 ((s % 256 : Nat) : Int) + Lib.pop8 ((s / 256 % 256 : Nat) : Int) = ((portsL s).length : Nat) := by
  rw [pop8_ones ⟨s % 256, by omega⟩, pop8_ones ⟨s / 256 % 256, by omega⟩]
  unfold portsL
  rw [upto_ones s 16 (by omega), ones_split s]
  exact (Int.natCast_add _ _).symm


theorem tab_val (X : ByteArray) (hX : X = Lib.pop8tab) (i : Nat) (hi : i < 256) (w : World) : (Instr.index 9 (.string X) (.int .u32 (i : Nat))).run Try.prog w = .ok (.int .u8 (Lib.pop8 (i : Nat))) w := by
  rw [hX]
  exact Lib.run_index_pop8tab w 9 .u32 i (by kernel_rfl) (by omega) (by omega)
theorem tab_op (o : Oper) (ev : Operand → Value) (X : ByteArray) (t : Operand) (ho : o.op = .index 9 (.const (.string X)) t) (hX : X = Lib.pop8tab) (i : Nat) (hi : i < 256) (ht : ev t = .int .u32 (i : Nat)) (hc : ev (.const (.string X)) = .string X) (w : World) :
    (execOp ev o).run Try.prog w = .ok (.value (.int .u8 (Lib.pop8 (i : Nat)))) w := by
  have e := tab_val X hX i hi w
  unfold execOp
  simp only [ho, ht, hc]
  clear hX
  go_simp
theorem wrap_u8 (x : Int) (h : 0 ≤ x) (h2 : x ≤ 255) : IntKind.u8.wrap x = x := by
  have : IntKind.u8.wrap x = x % 256 := rfl
  omega
theorem wrap_i64 (x : Int) (h : 0 ≤ x) (h2 : x ≤ 255) : IntKind.i64.wrap x = x := by
  have e : ∀ n : Nat, n < 256 → IntKind.i64.wrap (n : Int) = n := by decide +kernel
  have := e x.toNat (by omega)
  rwa [Int.toNat_of_nonneg h] at this
theorem pop8_le (i : Nat) (hi : i < 256) : 0 ≤ Lib.pop8 (i : Nat) ∧ Lib.pop8 (i : Nat) ≤ 8 := by
  have key : ∀ n : Fin 256, 0 ≤ Lib.pop8 (n.val : Int) ∧ Lib.pop8 (n.val : Int) ≤ 8 := by decide +kernel
  exact key ⟨i, hi⟩
theorem pop8_zero : Lib.pop8 ((0 : Nat) : Int) = 0 := by decide +kernel
structure DrawnC (w0 w : World) : Prop where
  ok : ∃ n, w = w0.drewN n
attribute [local irreducible] wpQuiet
theorem and_all (s : Nat) : s &&& 65535 = s % 65536 := Nat.and_two_pow_sub_one_eq_mod s 16
theorem has_mod (s : Nat) (p : Int) : hasB (s % 65536) p = hasB s p := by
  rcases port_cases p with h | ⟨k, hk, rfl⟩
  · rw [hasB_no h, hasB_no h]
  · rw [hasB_at _ k hk, hasB_at _ k hk, ← Nat.testBit_eq_decide_div_mod_eq, ← Nat.testBit_eq_decide_div_mod_eq, show (65536 : Nat) = 2 ^ 16 from rfl, Nat.testBit_mod_two_pow, decide_eq_true hk, Bool.true_and]
theorem ports_mod (s : Nat) : portsL (s % 65536) = portsL s := by
  unfold portsL upto
  exact List.filter_congr fun p _ => has_mod s p

/-- Is each port of a set in another one? -/
def withinB (s t : Nat) : Bool := (portsL s).all (hasB t)
theorem within_eq (s t : Nat) (ht : t < 4294967296) : (s % 65536 &&& (4294967295 - t) == 0) = withinB s t := by
  have hT : ∀ k, k < 16 → (4294967295 - t).testBit k = !t.testBit k := by
    intro k hk
    rw [show 4294967295 - t = 2 ^ 32 - (t + 1) by omega, Nat.testBit_two_pow_sub_succ ht, decide_eq_true (show k < 32 by omega), Bool.true_and]
  rw [Bool.eq_iff_iff, beq_iff_eq]
  unfold withinB
  rw [List.all_eq_true]
  constructor
  · intro h p hp
    unfold portsL upto at hp
    rw [List.mem_filter] at hp
    rcases port_cases p with q | ⟨k, hk, rfl⟩
    · rw [hasB_no q] at hp
      exact absurd hp.2 (by simp)
    · have h1 := congrArg (fun x => x.testBit k) h
      simp only [Nat.testBit_and, Nat.zero_testBit] at h1
      have h2 := hp.2
      rw [← has_mod, hasB_at _ k hk, ← Nat.testBit_eq_decide_div_mod_eq] at h2
      rw [h2, hT k hk, Bool.true_and] at h1
      rw [hasB_at t k hk, ← Nat.testBit_eq_decide_div_mod_eq]
      simpa using h1
  · intro h
    apply Nat.eq_of_testBit_eq
    intro k
    rw [Nat.testBit_and, Nat.zero_testBit, show (65536 : Nat) = 2 ^ 16 from rfl, Nat.testBit_mod_two_pow]
    by_cases hk : k < 16
    · cases c : s.testBit k with
      | false => simp
      | true =>
        have e : hasB s ((k : Int) + 1) = true := by rw [hasB_at s k hk, ← Nat.testBit_eq_decide_div_mod_eq, c]
        have := h ((k : Int) + 1) (by
          unfold portsL upto
          rw [List.mem_filter]
          exact ⟨List.mem_map.2 ⟨k, List.mem_range.2 hk, rfl⟩, e⟩)
        rw [hasB_at t k hk, ← Nat.testBit_eq_decide_div_mod_eq] at this
        rw [hT k hk, this]
        simp
    · rw [decide_eq_false hk]
      rfl

end Go.Proofs.Ytilklfmcdgggfaa
end
section
namespace Go.Proofs.Ytilklfmcdgggfaa
open Go.RowKit
set_option linter.unusedSimpArgs false

def withS (s : Nat) (p : Int) : Nat := if isPort p = true then s ||| 2 ^ (p - 1).toNat else s
def withoutS (s : Nat) (p : Int) : Nat := if isPort p = true then s &&& (4294967295 - 2 ^ (p - 1).toNat) else s

theorem hasB_bit (s k : Nat) (h : k < 16) : hasB s ((k : Int) + 1) = s.testBit k := by rw [hasB_at s k h, Nat.testBit_eq_decide_div_mod_eq]
theorem withS_lt (s : Nat) (p : Int) (hs : s < 4294967296) : withS s p < 4294967296 := by
  unfold withS
  rcases port_cases p with h | ⟨k, hk, rfl⟩
  · rw [h]; exact hs
  · rw [isPort_at k hk, if_pos rfl, show ((k : Int) + 1 - 1).toNat = k by omega]
    have := pow_k k hk
    exact Nat.or_lt_two_pow (n := 32) hs (by omega)
theorem withoutS_lt (s : Nat) (p : Int) (hs : s < 4294967296) : withoutS s p < 4294967296 := by
  unfold withoutS
  split
  · exact Nat.lt_of_le_of_lt Nat.and_le_left hs
  · exact hs

theorem has_withS (s : Nat) (p q : Int) : hasB (withS s p) q = (hasB s q || (decide (q = p) && isPort p)) := by
  rcases port_cases p with h | ⟨k, hk, rfl⟩
  · unfold withS
    rw [h]
    simp
  · unfold withS
    rw [isPort_at k hk, if_pos rfl, show ((k : Int) + 1 - 1).toNat = k by omega, Bool.and_true]
    rcases port_cases q with h | ⟨j, hj, rfl⟩
    · rw [hasB_no h, hasB_no h]
      have : ¬ q = (k : Int) + 1 := fun e => by rw [e, isPort_at k hk] at h; cases h
      simp [this]
    · rw [hasB_bit _ j hj, hasB_bit _ j hj, Nat.testBit_or, Nat.testBit_two_pow]
      congr 1
      rw [decide_eq_decide]
      omega
theorem testBit_full (k j : Nat) (hk : k < 16) (hj : j < 16) : (4294967295 - 2 ^ k).testBit j = decide (j ≠ k) := by
  have h1 : 2 ^ k < 2 ^ 32 := Nat.pow_lt_pow_right (by omega) (by omega)
  rw [show 4294967295 - 2 ^ k = 2 ^ 32 - (2 ^ k + 1) by omega, Nat.testBit_two_pow_sub_succ h1, Nat.testBit_two_pow]
  simp only [decide_not]
  rw [decide_eq_true (show j < 32 by omega), Bool.true_and]
  congr 1
  rw [decide_eq_decide]
  omega
theorem has_withoutS (s : Nat) (p q : Int) : hasB (withoutS s p) q = (hasB s q && decide (q ≠ p)) := by
  rcases port_cases p with h | ⟨k, hk, rfl⟩
  · unfold withoutS
    rw [h]
    rcases port_cases q with hq | ⟨j, hj, rfl⟩
    · simp [hasB_no hq]
    · have : ((j : Int) + 1) ≠ p := fun e => by rw [← e, isPort_at j hj] at h; cases h
      simp [this]
  · unfold withoutS
    rw [isPort_at k hk, if_pos rfl, show ((k : Int) + 1 - 1).toNat = k by omega]
    rcases port_cases q with h | ⟨j, hj, rfl⟩
    · rw [hasB_no h, hasB_no h]
      rfl
    · rw [hasB_bit _ j hj, hasB_bit _ j hj, Nat.testBit_and, testBit_full k j hk hj]
      congr 1
      rw [decide_eq_decide]
      omega

theorem with_or (s : Nat) (p : Int) : s ||| bitN p = withS s p := by
  unfold withS bitN
  split
  · rfl
  · exact Nat.or_zero s
theorem with_any (s : Nat) (p : Int) (w : World) (hs : s < 4294967296) : Calls Try.prog 54 #[.int .u32 (s : Nat), .int .i64 p] w fun e w' => e = .returned (.int .u32 (withS s p : Nat)) ∧ w = w' := by
  have R := Lib.hid (show bits .or .u32 (s : Int) (bitN p : Nat) = (withS s p : Nat) by rw [u32_or_nat s _ hs (by have := bitN_lt p; omega), with_or])
  go_enter Try.func54, Try.ntmps54
  go_wp2_with (go_at_call 65; refine (bit_any _ _).mono ?_; rintro e w' ⟨rfl, rfl⟩)
  go_ret
  exact ⟨ret_num R.out, rfl⟩

theorem without_andNot (s : Nat) (p : Int) (hs : s < 4294967296) : s &&& (4294967295 - bitN p) = withoutS s p := by
  unfold withoutS bitN
  split
  · rfl
  · rw [Nat.sub_zero, show (4294967295 : Nat) = 2 ^ 32 - 1 from rfl, Nat.and_two_pow_sub_one_eq_mod, Nat.mod_eq_of_lt hs]
end Go.Proofs.Ytilklfmcdgggfaa
end
section
namespace Go.Proofs.Ytilklfmcdgggfaa
open Go.RowKit
set_option linter.unusedSimpArgs false
set_option linter.unusedVariables false

/-- The set of some numbers. -/
def ofS (zs : List Int) : Nat := zs.foldl withS 0
theorem ofS_snoc (zs : List Int) (z : Int) : ofS (zs ++ [z]) = withS (ofS zs) z := by simp [ofS]
theorem ofS_lt (zs : List Int) : ofS zs < 65536 := by
  have key : ∀ (l : List Int) (s : Nat), s < 65536 → l.foldl withS s < 65536 := by
    intro l
    induction l with
    | nil => intro s h; exact h
    | cons z l ih =>
      intro s h
      refine ih _ ?_
      unfold withS
      rcases port_cases z with c | ⟨k, hk, rfl⟩
      · rw [c]; exact h
      · rw [isPort_at k hk, if_pos rfl, show ((k : Int) + 1 - 1).toNat = k by omega]
        exact Nat.or_lt_two_pow (n := 16) h (pow_k k hk)
  exact key zs 0 (by omega)
theorem has_ofS (zs : List Int) (q : Int) : hasB (ofS zs) q = (zs.contains q && isPort q) := by
  have key : ∀ (l : List Int) (s : Nat), hasB (l.foldl withS s) q = (hasB s q || (l.contains q && isPort q)) := by
    intro l
    induction l with
    | nil => intro s; simp
    | cons z l ih =>
      intro s
      rw [List.foldl_cons, ih, has_withS, List.contains_cons, Bool.or_assoc]
      congr 1
      by_cases c : q = z
      · subst c
        simp
      · have : (q == z) = false := by simpa using c
        rw [this, decide_eq_false c]
        simp
  unfold ofS
  rw [key]
  have : hasB 0 q = false := by
    rcases port_cases q with c | ⟨k, hk, rfl⟩
    · exact hasB_no c
    · rw [hasB_bit 0 k hk]; simp
  rw [this, Bool.false_or]

/-- A slice of ints that is read. -/
def IntsAt (w : World) (A : Option Addr) (zs : List Int) : Prop :=
  zs = [] ∨ ∃ b off, A = some ⟨b, off, none⟩ ∧ ∀ j z, zs[j]? = some z → w.cell? ⟨b, off + j, none⟩ = some (.int .i64 z)

set_option maxHeartbeats 2000000 in
theorem of_any (A : Option Addr) (c : Nat) (zs : List Int) (w : World) (h : IntsAt w A zs) (hl : zs.length ≤ 1000) : Calls Try.prog 36 #[.slice A zs.length c] w fun e w' => e = .returned (.int .u32 (ofS zs : Nat)) ∧ w = w' := by
  obtain ⟨n, hn⟩ : ∃ n, zs.length = n := ⟨_, rfl⟩
  rw [hn]
  have HN := Lib.hid hn
  have H := Lib.hid h
  have hn2 : (n : Int) ≤ 1000 := by omega
  clear h hn hl
  go_enter Try.func36, Try.ntmps36
  go_wp2
  go_loop [3, 8] (fun t i => ∃ k : Nat, k ≤ n ∧ i = .int .i64 k ∧ t = .int .u32 (ofS (zs.take k) : Nat)) (fun _ i => n - (intOf i).toNat)
  case atStart => exact ⟨0, Nat.zero_le _, rfl, rfl⟩
  case round =>
    obtain ⟨k, hk, rfl, rfl⟩ := hrel
    by_cases hlt : k < n
    · obtain ⟨z, hz⟩ : ∃ z, zs[k]? = some z := ⟨_, List.getElem?_eq_getElem (show k < zs.length by rw [HN.out]; exact hlt)⟩
      rcases H.out with h0 | ⟨b, off, rfl, hc⟩
      · rw [h0] at hz; simp at hz
      have c := hc k z hz
      have HT := Lib.hid (show ofS (zs.take (k + 1)) = withS (ofS (zs.take k)) z by rw [List.take_add_one, hz]; exact ofS_snoc _ _)
      have hlt' : (k : Int) < n := by omega
      have hl := ofS_lt (zs.take k)
      have HL := Lib.hid hl
      clear hc hz hl
      go_wp2_with (go_at_call 54; ((with_reducible refine (with_any (ofS (zs.take k)) z _ (by have := HL.out; omega)).mono ?_); rintro e w' ⟨rfl, rfl⟩))
      go_round
      case rel => exact ⟨k + 1, by omega, by go_num, by rw [HT.out]⟩
      case measure => simp [intOf]; omega
    · have hk2 : k = n := by omega
      subst hk2
      have HT := Lib.hid (show zs.take k = zs by rw [← HN.out]; exact List.take_of_length_le (Nat.le_refl _))
      go_wp2
      go_ret
      exact ⟨ret_num (by rw [HT.out]), rfl⟩

theorem ints_new (w : World) (zs : List Int) : IntsAt (w.alloc (.cells (zs.map fun z => Value.int .i64 z).toArray 3)) (some ⟨w.heap.size, 0, none⟩) zs := by
  refine .inr ⟨w.heap.size, 0, rfl, fun j z hz => ?_⟩
  have := (Blk.new w (zs.map fun z => Value.int .i64 z).toArray 3).cell j
  rw [Nat.zero_add, this]
  simp [hz]

theorem sp1 : withS (ofS [1, 3]) 2 = 7 := by decide
theorem sp2 : hasB 7 3 = true := by decide
theorem sp3 : hasB 7 4 = false := by decide
theorem sp4 : (portsL 7).length = 3 := by decide
theorem sp5 : withoutS 7 1 = 6 := by decide
theorem sp6 : withinB (ofS [1]) 7 = true := by decide

end Go.Proofs.Ytilklfmcdgggfaa
end
section
namespace Go.Proofs.Ytilklfmcdgggfaa
open Go.RowKit
set_option linter.unusedSimpArgs false
set_option linter.unusedVariables false

/-- The entry of a round. -/
abbrev flS (k : Nat) : Se := ⟨1 + k % 3, 2 * k, 2 ^ (k % 16)⟩
/-- What is known of the list behind k rounds. -/
structure FS (k : Nat) (l : List Se) : Prop where
  len : l.length = min k 16
  ok : ∀ y ∈ l, seOk y
  key : ∀ y ∈ l, ∃ j, j < k ∧ seK y = keyN (1 + j % 3) (2 * j)
  first : 0 < k → ∃ y ∈ l, seK y = keyN 1 0
theorem FS.nil : FS 0 [] := ⟨rfl, by simp, by simp, fun h => absurd h (Nat.lt_irrefl 0)⟩
theorem res_small (a : Nat) (h : a < 1099511627776) : resB (byteF a) = false := by
  unfold resB
  have : byteF a 0 = 0 := by rw [(byteF_lit a).1]; omega
  rw [this]
  rfl
theorem good_flS (k : Nat) (h : k < 30) : goodS (flS k) = 0 := by
  unfold goodS
  have := pow_k (k % 16) (Nat.mod_lt _ (by omega))
  rw [if_neg (by simp only; omega), res_small _ (by simp only; omega), if_neg (by decide), if_neg (by simp only; omega)]
theorem key_flS (k : Nat) : seK (flS k) = keyN (1 + k % 3) (2 * k) := rfl
theorem ok_flS (k : Nat) (h : k < 30) : seOk (flS k) := by unfold seOk; simp only; omega
theorem FS.new {k : Nat} {l : List Se} (h : FS k l) (hk : k < 30) : atK seK (seK (flS k)) l = -1 := by
  refine atK_none seK _ l fun y hy e => ?_
  obtain ⟨j, hj, hj2⟩ := h.key y hy
  rw [hj2, key_flS, keyN_eq (by omega) (by omega)] at e
  omega
theorem FS.step {k : Nat} {l : List Se} (h : FS k l) (hk : k < 16) : FS (k + 1) (setS l (flS k)) ∧ setSE l (flS k) = 0 := by
  have hg := good_flS k (by omega)
  have ha := h.new (by omega)
  have hl := h.len
  have e : setS l (flS k) = layK seK l (flS k) := by unfold setS; rw [if_neg (by rw [hg]; simp), if_neg (by omega), if_neg (by omega)]
  constructor
  · rw [e]
    refine ⟨by rw [layK_len]; omega, fun y hy => ?_, fun y hy => ?_, fun _ => ?_⟩
    · rcases lay_mem hy with c | c
      · rw [c]; exact ok_flS k (by omega)
      · exact h.ok y c
    · rcases lay_mem hy with c | c
      · exact ⟨k, by omega, by rw [c, key_flS]⟩
      · obtain ⟨j, hj, e⟩ := h.key y c
        exact ⟨j, by omega, e⟩
    · rcases Nat.eq_zero_or_pos k with c | c
      · subst c
        exact ⟨flS 0, mem_lay_self, rfl⟩
      · obtain ⟨y, hy, e⟩ := h.first c
        exact ⟨y, mem_lay hy, e⟩
  · unfold setSE
    rw [if_neg (by rw [hg]; simp), if_neg (by omega), if_neg (by omega)]
where
  lay_mem {l : List Se} {x y : Se} (h : y ∈ layK seK l x) : y = x ∨ y ∈ l := by
    unfold layK at h
    rcases List.mem_append.1 h with h | h
    · rcases List.mem_append.1 h with h | h
      · exact .inr (List.mem_of_mem_take h)
      · exact .inl (by simpa using h)
    · exact .inr (List.mem_of_mem_drop h)
  mem_lay {l : List Se} {x y : Se} (h : y ∈ l) : y ∈ layK seK l x := by
    unfold layK
    rw [← List.take_append_drop (posK seK (seK x) l) l] at h
    rcases List.mem_append.1 h with h | h
    · exact List.mem_append_left _ (List.mem_append_left _ h)
    · exact List.mem_append_right _ h
  mem_lay_self {l : List Se} {x : Se} : x ∈ layK seK l x := by
    unfold layK
    exact List.mem_append_left _ (List.mem_append_right _ (by simp))
theorem FS.full {k : Nat} {l : List Se} (h : FS k l) (hk : 16 ≤ k) (hk2 : k < 30) : FS (k + 1) (setS l (flS k)) ∧ setSE l (flS k) = 13 := by
  have hg := good_flS k hk2
  have ha := h.new hk2
  have hl := h.len
  have e : setS l (flS k) = l := by unfold setS; rw [if_neg (by rw [hg]; simp), if_neg (by omega), if_pos (by omega)]
  constructor
  · rw [e]
    exact ⟨by omega, h.ok, fun y hy => by obtain ⟨j, hj, e⟩ := h.key y hy; exact ⟨j, by omega, e⟩, fun _ => h.first (by omega)⟩
  · unfold setSE
    rw [if_neg (by rw [hg]; simp), if_neg (by omega), if_pos (by omega)]

/-- .. and behind the one in the place of the first. -/
structure FT (n : Nat) (l : List Se) : Prop where
  len : l.length = n
  ok : ∀ y ∈ l, seOk y
  low : ∀ y ∈ l, y.vid ≤ 3
theorem FS.ft {k : Nat} {l : List Se} (h : FS k l) (hk : k ≤ 30) : FT (min k 16) l := by
  refine ⟨h.len, h.ok, fun y hy => ?_⟩
  obtain ⟨j, hj, e⟩ := h.key y hy
  have := h.ok y hy
  unfold seOk at this
  unfold seK keyN at e
  omega
theorem good_two : goodS ⟨1, 0, 2⟩ = 0 := by decide
theorem FS.again {k : Nat} {l : List Se} (h : FS k l) (hk : 0 < k) (hk3 : k ≤ 30) : FT (min k 16) (setS l ⟨1, 0, 2⟩) ∧ setSE l ⟨1, 0, 2⟩ = 0 := by
  have hat : 0 ≤ atK seK (seK ⟨1, 0, 2⟩) l := by
    rcases atK_cases seK (seK ⟨1, 0, 2⟩) l with ⟨-, q⟩ | ⟨j, x, q, -, -⟩
    · obtain ⟨y, hy, e⟩ := h.first hk
      exact absurd e (q y hy)
    · omega
  constructor
  · unfold setS
    rw [if_neg (by rw [good_two]; simp), if_pos hat]
    refine ⟨by rw [List.length_set]; exact h.len, fun y hy => ?_, fun y hy => ?_⟩
    · rcases List.mem_or_eq_of_mem_set hy with c | c
      · exact h.ok y c
      · rw [c]; show (0 : Nat) < 281474976710656; omega
    · rcases List.mem_or_eq_of_mem_set hy with c | c
      · exact (h.ft hk3).low y c
      · rw [c]; show (1 : Nat) ≤ 3; omega
  · unfold setSE
    rw [if_neg (by rw [good_two]; simp), if_pos hat]
/-- The last one. -/
abbrev lastN (z : Nat) : Nat := 1652522221568 + z
theorem last_bytes (z : Nat) (h : z < 256) : byteF (lastN z) 0 = 1 ∧ byteF (lastN z) 1 = 128 ∧ byteF (lastN z) 2 = 194 ∧ byteF (lastN z) 3 = 0 ∧ byteF (lastN z) 4 = 0 ∧ byteF (lastN z) 5 = z := by
  obtain ⟨e0, e1, e2, e3, e4, e5⟩ := byteF_lit (lastN z)
  refine ⟨?_, ?_, ?_, ?_, ?_, ?_⟩
  · rw [e0]; simp only [lastN]; omega
  · rw [e1]; simp only [lastN]; omega
  · rw [e2]; simp only [lastN]; omega
  · rw [e3]; simp only [lastN]; omega
  · rw [e4]; simp only [lastN]; omega
  · rw [e5]; simp only [lastN]; omega
theorem FT.last {n z : Nat} {l : List Se} (h : FT n l) (hz : z < 256) : setSE l ⟨4000, lastN z, 0⟩ = if z < 16 then 6 else if 16 ≤ n then 13 else 0 := by
  obtain ⟨e0, e1, e2, e3, e4, e5⟩ := last_bytes z hz
  have hg : goodS ⟨4000, lastN z, 0⟩ = if z < 16 then 6 else 0 := by
    unfold goodS resB
    simp only [e0, e1, e2, e3, e4, e5]
    by_cases c : z < 16
    · simp [c]
    · simp [c]
  have ha : atK seK (seK ⟨4000, lastN z, 0⟩) l = -1 := by
    refine atK_none seK _ l fun y hy e => ?_
    have h1 := h.low y hy
    have h2 := h.ok y hy
    unfold seOk at h2
    unfold seK at e
    rw [keyN_eq h2 (by simp only [lastN]; omega)] at e
    have e1 : y.vid = 4000 := e.1
    omega
  unfold setSE
  rw [hg, h.len]
  by_cases c : z < 16
  · simp [c]
  · rw [if_neg c, if_neg (by simp), if_neg (by omega), if_neg c]
theorem FT.kept {n z : Nat} {l : List Se} (h : FT n l) (hz : z < 16) : setS l ⟨4000, lastN z, 0⟩ = l := by
  have := h.last (z := z) (by omega)
  rw [if_pos hz] at this
  unfold setS
  unfold setSE at this
  split at this
  · rename_i c; rw [if_pos c]
  · exfalso
    split at this
    · omega
    · split at this <;> omega
end Go.Proofs.Ytilklfmcdgggfaa
end
