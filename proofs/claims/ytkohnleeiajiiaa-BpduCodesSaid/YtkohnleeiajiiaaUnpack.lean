/- unpackFlags and setFlags: a byte's eight bits into a map, and out of it into a PDU. -/
import Derived.Test.YtkohnleeiajiiaaPack
namespace Go.Proofs.Ytkohnleeiajiiaa
open Go.RowKit Go.Maps
set_option linter.unusedSimpArgs false

/-- Bit j of a number. -/
def bitN (n j : Nat) : Nat := n / 2 ^ j % 2
theorem bitN_two (n j : Nat) : bitN n j < 2 := Nat.mod_lt _ (by omega)
theorem field_bit (n j : Nat) (hj : j < 8) : Nums.fieldN n (j : Nat) 1 = bitN n j := by
  rw [Nums.fieldN_one _ _ (by omega) (by omega)]
  rfl

/-- The first k places of eight. -/
def pre8 (k : Nat) : List Bool := [decide (0 < k), decide (1 < k), decide (2 < k), decide (3 < k), decide (4 < k), decide (5 < k), decide (6 < k), decide (7 < k)]
theorem pre8_at (k : Nat) (hk : k < 8) : (pre8 k).getD k false = false := by
  match k, hk with
  | 0, _ => rfl
  | 1, _ => rfl
  | 2, _ => rfl
  | 3, _ => rfl
  | 4, _ => rfl
  | 5, _ => rfl
  | 6, _ => rfl
  | 7, _ => rfl
theorem pre8_succ (k : Nat) (hk : k < 8) : (pre8 k).set k true = pre8 (k + 1) := by
  match k, hk with
  | 0, _ => rfl
  | 1, _ => rfl
  | 2, _ => rfl
  | 3, _ => rfl
  | 4, _ => rfl
  | 5, _ => rfl
  | 6, _ => rfl
  | 7, _ => rfl

theorem wpList_put8 {w : World} {ops : Array Oper} {rest : List Oper} {o : Oper} {a : Act} {Q : Exit → Act → World → Prop} (hg : o.guard = none) (m x v : Operand) (hop : o.op = Op.mapUpdate 90 m x v) (b : Nat) (vf : Nat → Nat) (f : List Bool)
    (h : MapAt w b vf f) (j : Nat) (hj : j < 8) (hf : f.getD j false = false) (hv : vf j < 18446744073709551616) (hm : a.eval m = .map (some b)) (hx : a.eval x = .int .i64 (j : Nat)) (hvv : a.eval v = .int .u64 (vf j : Nat))
    (hK : ∀ w', MapAt w' b vf (f.set j true) → w.grownBy w' (some b) → wpList Try.prog ops Q rest (a.put o.dst undef) w') : wpList Try.prog ops Q (o :: rest) a w := by
  refine wpList_plain hg fun K' hK' => ?_
  obtain ⟨w2, hrun, h2, hgr⟩ := h.put j hj hf hv
  exact wp_update hop hm hx hvv hrun (hK' _ _ (hK w2 h2 hgr))

theorem wpList_look8 {w : World} {ops : Array Oper} {rest : List Oper} {o : Oper} {a : Act} {Q : Exit → Act → World → Prop} (hg : o.guard = none) (m x : Operand) (hop : o.op = Op.lookup 90 m x false) (b : Nat) (v : Nat → Nat)
    (h : MapAt w b v [true, true, true, true, true, true, true, true]) (j : Nat) (hj : j < 8) (hm : a.eval m = .map (some b)) (hx : a.eval x = .int .i64 (j : Nat))
    (hK : wpList Try.prog ops Q rest (a.put o.dst (.int .u64 (v j : Nat))) w) : wpList Try.prog ops Q (o :: rest) a w := by
  obtain ⟨D, n, ho, -, -, -, -, h2⟩ := h
  refine wpList_lookup_own_int w hg m x 90 hop 3 22 .u64 law3 Try.underlying90 Try.underlying22 (zero22 w) b n D hm ho _ (kl j) hx (keyOf_int_mk Try.underlying3 (kl_wf j hj)) fun c hat hwc => ?_
  rw [(h2 j hj (all8 j hj)).2] at hat
  have hcv : (v j : Int) = c := by
    injection hat with e1
    injection e1
  rw [← hcv]
  exact hK

set_option maxRecDepth 100000 in
set_option maxHeartbeats 4000000 in
theorem unpack_any (n : Nat) (w : World) (hn : n < 256) : Calls Try.prog 46 #[.int .u64 (n : Nat)] w (MapRes w (bitN n)) := by
  have hmm := @run_makeMap Try.prog
  go_enter Try.func46, Try.ntmps46
  go_wp2_with fail
  go_loopw [6] (fun i wr => ∃ k : Nat, k ≤ 8 ∧ i = .int .i64 k ∧ MapAt wr w.heap.size (bitN n) (pre8 k) ∧ Below w.heap.size w wr) (fun i _ => 8 - (intOf i).toNat)
  case atStart => exact ⟨0, by omega, rfl, MapAt.made w _, (Below.refl _ _).alloc (Nat.le_refl _) _⟩
  case round =>
    obtain ⟨k, hk, rfl, hm, hb⟩ := hrel
    by_cases hlt : k < 8
    · have F := Lib.hid (field_bit n k hlt)
      have hl : bitN n k < 18446744073709551616 := by have := bitN_two n k; omega
      have P8 := Lib.hid (pre8_succ k hlt)
      have M := Lib.hid hm
      clear hm
      go_wp2_with (first
        | (go_at_call 40; refine (field_any n (k : Int) 1 _ (by omega)).mono ?_; rintro e w2 ⟨rfl, rfl⟩; rw [F.out])
        | (at_mapUpdate; refine wpList_put8 rfl _ _ _ rfl w.heap.size (bitN n) (pre8 k) M.out k hlt (pre8_at k hlt) hl rfl rfl rfl ?_; intro w3 hm3 hg3))
      go_roundw
      case rel => exact ⟨k + 1, by omega, by go_num, by rw [← P8.out]; exact hm3, hb.grown hg3 hb.size (fun q hq => by cases hq; exact Nat.le_refl _)⟩
      case measure => simp [intOf]; omega
    · have hk8 : k = 8 := by omega
      subst hk8
      have HM : MapRes w (bitN n) (.returned (.map (some w.heap.size))) wr := ⟨w.heap.size, rfl, Nat.le_refl _, hm, hb⟩
      have HM := Lib.hid HM
      clear hm hb
      go_wp2_with fail
      go_ret
      exact HM.out
end Go.Proofs.Ytkohnleeiajiiaa
