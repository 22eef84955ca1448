/- FdbKeys, walked: of every two keys. -/
import Derived.Test.YtilklfmcdgggfaaSp9
import Derived.Test.YtilklfmcdgggfaaKless
import Derived.Test.YtilklfmcdgggfaaKx
import Derived.Test.YtilklfmcdgggfaaLits
import Derived.BigRegion
import Derived.Deep.DeepCutAuto
namespace Go.Proofs.Ytilklfmcdgggfaa
open Go.RowKit
attribute [local irreducible] wpQuiet
set_option linter.unusedSimpArgs false
set_option linter.unusedVariables false

theorem byteF_mac (m : Nat → Nat) (hm : Six m) : ∃ a, a < 281474976710656 ∧ mac m = mac (byteF a) := by
  refine ⟨numF m 6, numF_lt hm, mac_congr fun i hi => ?_⟩
  have h : eqMac (byteF (numF m 6)) m = true := by rw [eqMac_num (numF_lt hm) hm]; simp
  unfold eqMac at h
  simp only [Bool.and_eq_true, decide_eq_true_eq] at h
  obtain ⟨⟨⟨⟨⟨h0, h1⟩, h2⟩, h3⟩, h4⟩, h5⟩ := h
  match i, hi with
  | 0, _ => exact h0.symm
  | 1, _ => exact h1.symm
  | 2, _ => exact h2.symm
  | 3, _ => exact h3.symm
  | 4, _ => exact h4.symm
  | 5, _ => exact h5.symm

/-- The numbers, the addresses and the two keys in memory; and nothing that was there has changed. -/
structure Kq (w0 : World) (n n1 n2 v u a b c d : Nat) (w : World) : Prop where
  kn : Blk w n #[.int .u16 v, .int .u16 u] 60
  ka : Blk w n1 (macA (byteF a)) 31
  kb : Blk w n2 (macA (byteF b)) 31
  kc : Blk w c (kyA v a) 36
  kd : Blk w d (kyA u b) 36
  below : Below n w0 w
theorem Kq.next {w0 : World} {n n1 n2 v u a b c d : Nat} {w w' : World} (h : Kq w0 n n1 n2 v u a b c d w) (hb : Below w.heap.size w w') : Kq w0 n n1 n2 v u a b c d w' :=
  ⟨h.kn.below hb h.kn.lt, h.ka.below hb h.ka.lt, h.kb.below hb h.kb.lt, h.kc.below hb h.kc.lt, h.kd.below hb h.kd.lt, h.below.trans (hb.mono (Nat.le_of_lt h.kn.lt))⟩
theorem Kq.drew {w0 : World} {n n1 n2 v u a b c d : Nat} {w : World} (h : Kq w0 n n1 n2 v u a b c d w) : Kq w0 n n1 n2 v u a b c d w.drew :=
  ⟨h.kn.drew, h.ka.drew, h.kb.drew, h.kc.drew, h.kd.drew, h.below.drew⟩
theorem Kq.c0 {w0 : World} {n n1 n2 v u a b c d : Nat} {w : World} (h : Kq w0 n n1 n2 v u a b c d w) : w.cell? ⟨n, 0, none⟩ = some (.int .u16 (v : Nat)) := h.kn.cell 0
theorem Kq.c1 {w0 : World} {n n1 n2 v u a b c d : Nat} {w : World} (h : Kq w0 n n1 n2 v u a b c d w) : w.cell? ⟨n, 1, none⟩ = some (.int .u16 (u : Nat)) := h.kn.cell 1
/-- .. and where they lie. -/
def Kv (w0 : World) (n n1 n2 v u a b : Nat) (s7 s8 : Value) (w : World) : Prop := ∃ c d, s7 = .pointer (some ⟨c, 0, none⟩) ∧ s8 = .pointer (some ⟨d, 0, none⟩) ∧ Kq w0 n n1 n2 v u a b c d w
structure Kp (w0 : World) (n n1 n2 v u a b : Nat) (w : World) : Prop where
  kn : Blk w n #[.int .u16 v, .int .u16 u] 60
  ka : Blk w n1 (macA (byteF a)) 31
  kb : Blk w n2 (macA (byteF b)) 31
  below : Below n w0 w
theorem Kv.one {w0 w : World} {n n1 n2 v u a b : Nat} (h : Kp w0 n n1 n2 v u a b w) :
    Kv w0 n n1 n2 v u a b (.pointer (some ⟨w.heap.size, 0, none⟩)) (.pointer (some ⟨w.heap.size + 1, 0, none⟩)) ((w.alloc (.cells (kyA v a) 36)).alloc (.cells (kyA u b) 36)).drew := by
  have hl := Nat.le_of_lt h.kn.lt
  refine ⟨_, _, rfl, rfl, ((h.kn.alloc _).alloc _).drew, ((h.ka.alloc _).alloc _).drew, ((h.kb.alloc _).alloc _).drew, ((Blk.new _ _ _).alloc _).drew, ?_, ((h.below.alloc hl _).alloc (by simp; omega) _).drew⟩
  have := (Blk.new (w.alloc (.cells (kyA v a) 36)) (kyA u b) 36).drew
  rwa [show (w.alloc (.cells (kyA v a) 36)).heap.size = w.heap.size + 1 by simp] at this
theorem Kv.two {w0 w : World} {n n1 n2 v u a b : Nat} (h : Kp w0 n n1 n2 v u a b w) :
    Kv w0 n n1 n2 v u a b (.pointer (some ⟨w.heap.size + 1, 0, none⟩)) (.pointer (some ⟨w.heap.size, 0, none⟩)) ((w.alloc (.cells (kyA u b) 36)).alloc (.cells (kyA v a) 36)).drew := by
  have hl := Nat.le_of_lt h.kn.lt
  refine ⟨_, _, rfl, rfl, ((h.kn.alloc _).alloc _).drew, ((h.ka.alloc _).alloc _).drew, ((h.kb.alloc _).alloc _).drew, ?_, ((Blk.new _ _ _).alloc _).drew, ((h.below.alloc hl _).alloc (by simp; omega) _).drew⟩
  have := (Blk.new (w.alloc (.cells (kyA u b) 36)) (kyA v a) 36).drew
  rwa [show (w.alloc (.cells (kyA u b) 36)).heap.size = w.heap.size + 1 by simp] at this
theorem size31 : (Try.prog.info? 31).map (·.size) = some 6 := by kernel_rfl

set_option maxRecDepth 100000 in
set_option maxHeartbeats 20000000 in
theorem keys_walk (v u a b : Nat) (w : World) (hv : v < 65536) (hu : u < 65536) (ha : a < 281474976710656) (hb : b < 281474976710656) :
    Calls Try.prog 4 #[.agg #[.int .u16 v, .int .u16 u], mac (byteF a), mac (byteF b)] w fun e w' => e = .returned (.bool true) ∧ Below w.heap.size w w' := by
  obtain ⟨W, hW⟩ : ∃ W, W = ((w.alloc (Obj.cells #[.int .u16 v, .int .u16 u] 60)).alloc (Obj.cells (macA (byteF a)) 31)).alloc (Obj.cells (macA (byteF b)) 31) := ⟨_, rfl⟩
  have hB : Below w.heap.size w W := by rw [hW]; exact (((Below.refl _ _).alloc (Nat.le_refl _) _).alloc (by simp) _).alloc (by simp; omega) _
  have r0 : Blk W w.heap.size #[.int .u16 v, .int .u16 u] 60 := by rw [hW]; exact ((Blk.new _ _ _).alloc _).alloc _
  have r1 : Blk W (w.heap.size + 1) (macA (byteF a)) 31 := by
    rw [hW]
    have := (Blk.new (w.alloc (Obj.cells #[.int .u16 v, .int .u16 u] 60)) (macA (byteF a)) 31).alloc (Obj.cells (macA (byteF b)) 31)
    rwa [show (w.alloc (Obj.cells #[.int .u16 v, .int .u16 u] 60)).heap.size = w.heap.size + 1 by simp] at this
  have r2 : Blk W (w.heap.size + 1 + 1) (macA (byteF b)) 31 := by
    rw [hW]
    have := Blk.new ((w.alloc (Obj.cells #[.int .u16 v, .int .u16 u] 60)).alloc (Obj.cells (macA (byteF a)) 31)) (macA (byteF b)) 31
    rwa [show ((w.alloc (Obj.cells #[.int .u16 v, .int .u16 u] 60)).alloc (Obj.cells (macA (byteF a)) 31)).heap.size = w.heap.size + 1 + 1 by simp] at this
  have HW := Lib.hid hW
  have HA := Lib.hid ha
  have HBB := Lib.hid hb
  clear hW ha hb
  go_enter Try.func4, Try.ntmps4
  go_wp2_with fail
  simp only [macA] at HW
  rw [← HW.out]
  refine (speaks9_any W).mono ?_
  rintro e w1 ⟨rfl, hb1⟩
  have kp : Kp w w.heap.size (w.heap.size + 1) (w.heap.size + 1 + 1) v u a b w1 := ⟨r0.below hb1 r0.lt, r1.below hb1 r1.lt, r2.below hb1 r2.lt, hB.trans (hb1.mono hB.size)⟩
  clear hB hb1 r0 r1 r2 HW
  generalize hne : w.heap.size = n at *
  have HN := Lib.hid hne
  generalize n + 1 = n1 at *
  generalize n1 + 1 = n2 at *
  have KP := Lib.hid kp
  have e0 := kp.kn.cell 0
  have e1 := kp.kn.cell 1
  simp only [List.getElem?_toArray, List.getElem?_cons_zero, List.getElem?_cons_succ] at e0 e1
  obtain ⟨c0, c1, c2, c3, c4, c5⟩ := kp.ka.six
  obtain ⟨d0, d1, d2, d3, d4, d5⟩ := kp.kb.six
  have l0 := kp.kn.lt
  have l1 := kp.ka.lt
  have l2 := kp.kb.lt
  clear hne kp
  go_upto_region 3 with fail
  go_cut [7, 8] (fun s7 s8 wx => Kv w n n1 n2 v u a b s7 s8 wx)
  case first =>
    go_region
    · go_wp2_with fail
      go_meet
      exact Kv.one KP.out
    · go_wp2_with fail
      go_meet
      exact Kv.two KP.out
  case rest =>
    obtain ⟨c, d, rfl, rfl, iq⟩ := hcut
    have IQ := Lib.hid iq
    clear iq c0 c1 c2 c3 c4 c5 d0 d1 d2 d3 d4 d5 e0 e1 l0 l1 l2
    have SZ6 := Lib.hid size31
    have SZ7 := Lib.hid kySize9
    have RA := Lib.hid (show ∀ W, Calls Try.prog 24 #[mac (byteF a)] W fun e w' => e = .returned (.int .u64 (a : Nat)) ∧ Below W.heap.size W w' from fun W => by
      have := rint_any (byteF a) W (byteF_six a)
      rwa [numF_byteF, Nat.mod_eq_of_lt HA.out] at this)
    have RB := Lib.hid (show ∀ W, Calls Try.prog 24 #[mac (byteF b)] W fun e w' => e = .returned (.int .u64 (b : Nat)) ∧ Below W.heap.size W w' from fun W => by
      have := rint_any (byteF b) W (byteF_six b)
      rwa [numF_byteF, Nat.mod_eq_of_lt HBB.out] at this)
    have hcase : (v < u ∧ v < u) ∨ (v = u ∧ a < b) ∨ (v = u ∧ a = b) ∨ (v = u ∧ b < a) ∨ (u < v ∧ u < v) := by omega
    have HC := Lib.hid hcase
    clear hcase
    rcases HC.out with ⟨g1, g2⟩ | ⟨g1, g2⟩ | ⟨g1, g2⟩ | ⟨g1, g2⟩ | ⟨g1, g2⟩
    · -- v < u
      have HL := Lib.hid (show ∀ W, Calls Try.prog 23 #[kyV v a, kyV u b] W fun e w' => e = .returned (.bool true) ∧ Below W.heap.size W w' from fun W => by
        have := key_less v a u b HA.out HBB.out W
        rwa [show decide (keyN v a < keyN u b) = true by rw [decide_eq_true_iff, keyN_lt HA.out HBB.out]; omega] at this)
      have HM := Lib.hid (show ∀ W, Calls Try.prog 23 #[kyV u b, kyV v a] W fun e w' => e = .returned (.bool false) ∧ Below W.heap.size W w' from fun W => by
        have := key_less u b v a HBB.out HA.out W
        rwa [show decide (keyN u b < keyN v a) = false by rw [decide_eq_false_iff_not, keyN_lt HBB.out HA.out]; omega] at this)
      have HE := Lib.hid (show ∀ W : World, (Op.equalIn 10000 36 (kyV v a) (kyV u b)).run Try.prog W = .ok false W from fun W => by
        have := ky_eq v u (byteF a) (byteF b) W
        rwa [eqMac_num HA.out (byteF_six b), numF_byteF, Nat.mod_eq_of_lt HBB.out, show (decide (v = u) && decide (a = b)) = false by rw [← Bool.decide_and, decide_eq_false_iff_not]; omega] at this)
      have F1 := Lib.hid (show decide (v < u) = true by simp; omega)
      have F2 := Lib.hid (show ((v : Int) == (u : Int)) = false by simp; omega)
      clear g1 g2 HC
      go_upto_region 4 with fail
      refine wp_region_quiet (C := Kq w n n1 n2 v u a b c d) (by kernel_rfl) (by kernel_rfl) IQ.out.drew ?_
      (refine q_val (v := kyV v a) (by rfl) (fun w hC => run_loadVar_of 36 _ rfl c rfl 36 (kyA v a) _ hC.kc Try.underlying36 rfl SZ7.out) ?_; (try simp only [Act.put, List.getElem_toArray, List.getElem_cons_succ, List.getElem_cons_zero, List.setIfInBounds_toArray, List.set_cons_zero, List.set_cons_succ]))
      (refine q_val (v := kyV u b) (by rfl) (fun w hC => run_loadVar_of 36 _ rfl d rfl 36 (kyA u b) _ hC.kd Try.underlying36 rfl SZ7.out) ?_; (try simp only [Act.put, List.getElem_toArray, List.getElem_cons_succ, List.getElem_cons_zero, List.setIfInBounds_toArray, List.set_cons_zero, List.set_cons_succ]))
      (refine q_call (v := .bool true) 23 #[kyV v a, kyV u b] (by rfl) (fun w hC => by go_simp) (fun w hC => calls_in (HL.out _) (fun w' hb => hC.next hb)) ?_; (try simp only [Act.put, List.getElem_toArray, List.getElem_cons_succ, List.getElem_cons_zero, List.setIfInBounds_toArray, List.set_cons_zero, List.set_cons_succ]))
      (refine q_val (v := ?_) (by rfl) ?_ ?_; rotate_left; (· (intro w hC; go_simp; try with_reducible rfl)); (try simp only [Act.put, List.getElem_toArray, List.getElem_cons_succ, List.getElem_cons_zero, List.setIfInBounds_toArray, List.set_cons_zero, List.set_cons_succ]))
      (refine q_val (v := ?_) (by rfl) ?_ ?_; rotate_left; (· (intro w hC; have q := hC.c0; go_simp; try with_reducible rfl)); (try simp only [Act.put, List.getElem_toArray, List.getElem_cons_succ, List.getElem_cons_zero, List.setIfInBounds_toArray, List.set_cons_zero, List.set_cons_succ]))
      (refine q_val (v := ?_) (by rfl) ?_ ?_; rotate_left; (· (intro w hC; go_simp; try with_reducible rfl)); (try simp only [Act.put, List.getElem_toArray, List.getElem_cons_succ, List.getElem_cons_zero, List.setIfInBounds_toArray, List.set_cons_zero, List.set_cons_succ]))
      (refine q_val (v := ?_) (by rfl) ?_ ?_; rotate_left; (· (intro w hC; have q := hC.c1; go_simp; try with_reducible rfl)); (try simp only [Act.put, List.getElem_toArray, List.getElem_cons_succ, List.getElem_cons_zero, List.setIfInBounds_toArray, List.set_cons_zero, List.set_cons_succ]))
      (refine q_val (v := ?_) (by rfl) ?_ ?_; rotate_left; (· (intro w hC; have q := F1.out; go_simp; try with_reducible rfl)); (try simp only [Act.put, List.getElem_toArray, List.getElem_cons_succ, List.getElem_cons_zero, List.setIfInBounds_toArray, List.set_cons_zero, List.set_cons_succ]))
      (refine q_val (v := ?_) (by rfl) ?_ ?_; rotate_left; (· (intro w hC; go_simp; try with_reducible rfl)); (try simp only [Act.put, List.getElem_toArray, List.getElem_cons_succ, List.getElem_cons_zero, List.setIfInBounds_toArray, List.set_cons_zero, List.set_cons_succ]))
      (refine q_skip (by rfl) ?_; (try simp only [Act.put, List.getElem_toArray, List.getElem_cons_succ, List.getElem_cons_zero, List.setIfInBounds_toArray, List.set_cons_zero, List.set_cons_succ]))
      (refine q_skip (by rfl) ?_; (try simp only [Act.put, List.getElem_toArray, List.getElem_cons_succ, List.getElem_cons_zero, List.setIfInBounds_toArray, List.set_cons_zero, List.set_cons_succ]))
      (refine q_skip (by rfl) ?_; (try simp only [Act.put, List.getElem_toArray, List.getElem_cons_succ, List.getElem_cons_zero, List.setIfInBounds_toArray, List.set_cons_zero, List.set_cons_succ]))
      (refine q_skip (by rfl) ?_; (try simp only [Act.put, List.getElem_toArray, List.getElem_cons_succ, List.getElem_cons_zero, List.setIfInBounds_toArray, List.set_cons_zero, List.set_cons_succ]))
      (refine q_skip (by rfl) ?_; (try simp only [Act.put, List.getElem_toArray, List.getElem_cons_succ, List.getElem_cons_zero, List.setIfInBounds_toArray, List.set_cons_zero, List.set_cons_succ]))
      (refine q_skip (by rfl) ?_; (try simp only [Act.put, List.getElem_toArray, List.getElem_cons_succ, List.getElem_cons_zero, List.setIfInBounds_toArray, List.set_cons_zero, List.set_cons_succ]))
      (refine q_skip (by rfl) ?_; (try simp only [Act.put, List.getElem_toArray, List.getElem_cons_succ, List.getElem_cons_zero, List.setIfInBounds_toArray, List.set_cons_zero, List.set_cons_succ]))
      (refine q_skip (by rfl) ?_; (try simp only [Act.put, List.getElem_toArray, List.getElem_cons_succ, List.getElem_cons_zero, List.setIfInBounds_toArray, List.set_cons_zero, List.set_cons_succ]))
      (refine q_skip (by rfl) ?_; (try simp only [Act.put, List.getElem_toArray, List.getElem_cons_succ, List.getElem_cons_zero, List.setIfInBounds_toArray, List.set_cons_zero, List.set_cons_succ]))
      (refine q_skip (by rfl) ?_; (try simp only [Act.put, List.getElem_toArray, List.getElem_cons_succ, List.getElem_cons_zero, List.setIfInBounds_toArray, List.set_cons_zero, List.set_cons_succ]))
      (refine q_skip (by rfl) ?_; (try simp only [Act.put, List.getElem_toArray, List.getElem_cons_succ, List.getElem_cons_zero, List.setIfInBounds_toArray, List.set_cons_zero, List.set_cons_succ]))
      (refine q_skip (by rfl) ?_; (try simp only [Act.put, List.getElem_toArray, List.getElem_cons_succ, List.getElem_cons_zero, List.setIfInBounds_toArray, List.set_cons_zero, List.set_cons_succ]))
      (refine q_val (v := ?_) (by rfl) ?_ ?_; rotate_left; (· (intro w hC; go_simp; try with_reducible rfl)); (try simp only [Act.put, List.getElem_toArray, List.getElem_cons_succ, List.getElem_cons_zero, List.setIfInBounds_toArray, List.set_cons_zero, List.set_cons_succ]))
      (refine q_val (v := ?_) (by rfl) ?_ ?_; rotate_left; (· (intro w hC; go_simp; try with_reducible rfl)); (try simp only [Act.put, List.getElem_toArray, List.getElem_cons_succ, List.getElem_cons_zero, List.setIfInBounds_toArray, List.set_cons_zero, List.set_cons_succ]))
      (refine q_val (v := ?_) (by rfl) ?_ ?_; rotate_left; (· (intro w hC; go_simp; try with_reducible rfl)); (try simp only [Act.put, List.getElem_toArray, List.getElem_cons_succ, List.getElem_cons_zero, List.setIfInBounds_toArray, List.set_cons_zero, List.set_cons_succ]))
      (refine q_val (v := kyV v a) (by rfl) (fun w hC => run_loadVar_of 36 _ rfl c rfl 36 (kyA v a) _ hC.kc Try.underlying36 rfl SZ7.out) ?_; (try simp only [Act.put, List.getElem_toArray, List.getElem_cons_succ, List.getElem_cons_zero, List.setIfInBounds_toArray, List.set_cons_zero, List.set_cons_succ]))
      (refine q_val (v := kyV u b) (by rfl) (fun w hC => run_loadVar_of 36 _ rfl d rfl 36 (kyA u b) _ hC.kd Try.underlying36 rfl SZ7.out) ?_; (try simp only [Act.put, List.getElem_toArray, List.getElem_cons_succ, List.getElem_cons_zero, List.setIfInBounds_toArray, List.set_cons_zero, List.set_cons_succ]))
      (refine q_call (v := .bool true) 23 #[kyV v a, kyV u b] (by rfl) (fun w hC => by go_simp) (fun w hC => calls_in (HL.out _) (fun w' hb => hC.next hb)) ?_; (try simp only [Act.put, List.getElem_toArray, List.getElem_cons_succ, List.getElem_cons_zero, List.setIfInBounds_toArray, List.set_cons_zero, List.set_cons_succ]))
      (refine q_val (v := ?_) (by rfl) ?_ ?_; rotate_left; (· (intro w hC; go_simp; try with_reducible rfl)); (try simp only [Act.put, List.getElem_toArray, List.getElem_cons_succ, List.getElem_cons_zero, List.setIfInBounds_toArray, List.set_cons_zero, List.set_cons_succ]))
      (refine q_val (v := kyV u b) (by rfl) (fun w hC => run_loadVar_of 36 _ rfl d rfl 36 (kyA u b) _ hC.kd Try.underlying36 rfl SZ7.out) ?_; (try simp only [Act.put, List.getElem_toArray, List.getElem_cons_succ, List.getElem_cons_zero, List.setIfInBounds_toArray, List.set_cons_zero, List.set_cons_succ]))
      (refine q_val (v := kyV v a) (by rfl) (fun w hC => run_loadVar_of 36 _ rfl c rfl 36 (kyA v a) _ hC.kc Try.underlying36 rfl SZ7.out) ?_; (try simp only [Act.put, List.getElem_toArray, List.getElem_cons_succ, List.getElem_cons_zero, List.setIfInBounds_toArray, List.set_cons_zero, List.set_cons_succ]))
      (refine q_call (v := .bool false) 23 #[kyV u b, kyV v a] (by rfl) (fun w hC => by go_simp) (fun w hC => calls_in (HM.out _) (fun w' hb => hC.next hb)) ?_; (try simp only [Act.put, List.getElem_toArray, List.getElem_cons_succ, List.getElem_cons_zero, List.setIfInBounds_toArray, List.set_cons_zero, List.set_cons_succ]))
      (refine q_val (v := ?_) (by rfl) ?_ ?_; rotate_left; (· (intro w hC; go_simp; try with_reducible rfl)); (try simp only [Act.put, List.getElem_toArray, List.getElem_cons_succ, List.getElem_cons_zero, List.setIfInBounds_toArray, List.set_cons_zero, List.set_cons_succ]))
      (refine q_val (v := ?_) (by rfl) ?_ ?_; rotate_left; (· (intro w hC; go_simp; try with_reducible rfl)); (try simp only [Act.put, List.getElem_toArray, List.getElem_cons_succ, List.getElem_cons_zero, List.setIfInBounds_toArray, List.set_cons_zero, List.set_cons_succ]))
      (refine q_val (v := ?_) (by rfl) ?_ ?_; rotate_left; (· (intro w hC; go_simp; try with_reducible rfl)); (try simp only [Act.put, List.getElem_toArray, List.getElem_cons_succ, List.getElem_cons_zero, List.setIfInBounds_toArray, List.set_cons_zero, List.set_cons_succ]))
      (refine q_val (v := ?_) (by rfl) ?_ ?_; rotate_left; (· (intro w hC; go_simp; try with_reducible rfl)); (try simp only [Act.put, List.getElem_toArray, List.getElem_cons_succ, List.getElem_cons_zero, List.setIfInBounds_toArray, List.set_cons_zero, List.set_cons_succ]))
      (refine q_val (v := kyV v a) (by rfl) (fun w hC => run_loadVar_of 36 _ rfl c rfl 36 (kyA v a) _ hC.kc Try.underlying36 rfl SZ7.out) ?_; (try simp only [Act.put, List.getElem_toArray, List.getElem_cons_succ, List.getElem_cons_zero, List.setIfInBounds_toArray, List.set_cons_zero, List.set_cons_succ]))
      (refine q_val (v := kyV u b) (by rfl) (fun w hC => run_loadVar_of 36 _ rfl d rfl 36 (kyA u b) _ hC.kd Try.underlying36 rfl SZ7.out) ?_; (try simp only [Act.put, List.getElem_toArray, List.getElem_cons_succ, List.getElem_cons_zero, List.setIfInBounds_toArray, List.set_cons_zero, List.set_cons_succ]))
      (refine q_val (v := ?_) (by rfl) ?_ ?_; rotate_left; (· (intro w hC; have q := HE.out; go_simp; try with_reducible rfl)); (try simp only [Act.put, List.getElem_toArray, List.getElem_cons_succ, List.getElem_cons_zero, List.setIfInBounds_toArray, List.set_cons_zero, List.set_cons_succ]))
      (refine q_val (v := kyV v a) (by rfl) (fun w hC => run_loadVar_of 36 _ rfl c rfl 36 (kyA v a) _ hC.kc Try.underlying36 rfl SZ7.out) ?_; (try simp only [Act.put, List.getElem_toArray, List.getElem_cons_succ, List.getElem_cons_zero, List.setIfInBounds_toArray, List.set_cons_zero, List.set_cons_succ]))
      (refine q_val (v := kyV u b) (by rfl) (fun w hC => run_loadVar_of 36 _ rfl d rfl 36 (kyA u b) _ hC.kd Try.underlying36 rfl SZ7.out) ?_; (try simp only [Act.put, List.getElem_toArray, List.getElem_cons_succ, List.getElem_cons_zero, List.setIfInBounds_toArray, List.set_cons_zero, List.set_cons_succ]))
      (refine q_call (v := .bool true) 23 #[kyV v a, kyV u b] (by rfl) (fun w hC => by go_simp) (fun w hC => calls_in (HL.out _) (fun w' hb => hC.next hb)) ?_; (try simp only [Act.put, List.getElem_toArray, List.getElem_cons_succ, List.getElem_cons_zero, List.setIfInBounds_toArray, List.set_cons_zero, List.set_cons_succ]))
      (refine q_val (v := ?_) (by rfl) ?_ ?_; rotate_left; (· (intro w hC; go_simp; try with_reducible rfl)); (try simp only [Act.put, List.getElem_toArray, List.getElem_cons_succ, List.getElem_cons_zero, List.setIfInBounds_toArray, List.set_cons_zero, List.set_cons_succ]))
      (refine q_val (v := ?_) (by rfl) ?_ ?_; rotate_left; (· (intro w hC; go_simp; try with_reducible rfl)); (try simp only [Act.put, List.getElem_toArray, List.getElem_cons_succ, List.getElem_cons_zero, List.setIfInBounds_toArray, List.set_cons_zero, List.set_cons_succ]))
      (refine q_skip (by rfl) ?_; (try simp only [Act.put, List.getElem_toArray, List.getElem_cons_succ, List.getElem_cons_zero, List.setIfInBounds_toArray, List.set_cons_zero, List.set_cons_succ]))
      (refine q_skip (by rfl) ?_; (try simp only [Act.put, List.getElem_toArray, List.getElem_cons_succ, List.getElem_cons_zero, List.setIfInBounds_toArray, List.set_cons_zero, List.set_cons_succ]))
      (refine q_skip (by rfl) ?_; (try simp only [Act.put, List.getElem_toArray, List.getElem_cons_succ, List.getElem_cons_zero, List.setIfInBounds_toArray, List.set_cons_zero, List.set_cons_succ]))
      (refine q_skip (by rfl) ?_; (try simp only [Act.put, List.getElem_toArray, List.getElem_cons_succ, List.getElem_cons_zero, List.setIfInBounds_toArray, List.set_cons_zero, List.set_cons_succ]))
      (refine q_val (v := ?_) (by rfl) ?_ ?_; rotate_left; (· (intro w hC; go_simp; try with_reducible rfl)); (try simp only [Act.put, List.getElem_toArray, List.getElem_cons_succ, List.getElem_cons_zero, List.setIfInBounds_toArray, List.set_cons_zero, List.set_cons_succ]))
      (refine q_val (v := ?_) (by rfl) ?_ ?_; rotate_left; (· (intro w hC; go_simp; try with_reducible rfl)); (try simp only [Act.put, List.getElem_toArray, List.getElem_cons_succ, List.getElem_cons_zero, List.setIfInBounds_toArray, List.set_cons_zero, List.set_cons_succ]))
      (refine q_val (v := ?_) (by rfl) ?_ ?_; rotate_left; (· (intro w hC; go_simp; try with_reducible rfl)); (try simp only [Act.put, List.getElem_toArray, List.getElem_cons_succ, List.getElem_cons_zero, List.setIfInBounds_toArray, List.set_cons_zero, List.set_cons_succ]))
      (refine q_val (v := ?_) (by rfl) ?_ ?_; rotate_left; (· (intro w hC; go_simp; try with_reducible rfl)); (try simp only [Act.put, List.getElem_toArray, List.getElem_cons_succ, List.getElem_cons_zero, List.setIfInBounds_toArray, List.set_cons_zero, List.set_cons_succ]))
      refine wpQuiet_nil ?_
      intro w5 hC5
      have HB5 := Lib.hid hC5.below
      clear hC5
      go_wp2_with fail
      go_ret
      exact ⟨rfl, by rw [HN.out]; exact HB5.out⟩
    · -- v = u, a < b
      have HL := Lib.hid (show ∀ W, Calls Try.prog 23 #[kyV v a, kyV u b] W fun e w' => e = .returned (.bool true) ∧ Below W.heap.size W w' from fun W => by
        have := key_less v a u b HA.out HBB.out W
        rwa [show decide (keyN v a < keyN u b) = true by rw [decide_eq_true_iff, keyN_lt HA.out HBB.out]; omega] at this)
      have HM := Lib.hid (show ∀ W, Calls Try.prog 23 #[kyV u b, kyV v a] W fun e w' => e = .returned (.bool false) ∧ Below W.heap.size W w' from fun W => by
        have := key_less u b v a HBB.out HA.out W
        rwa [show decide (keyN u b < keyN v a) = false by rw [decide_eq_false_iff_not, keyN_lt HBB.out HA.out]; omega] at this)
      have HE := Lib.hid (show ∀ W : World, (Op.equalIn 10000 36 (kyV v a) (kyV u b)).run Try.prog W = .ok false W from fun W => by
        have := ky_eq v u (byteF a) (byteF b) W
        rwa [eqMac_num HA.out (byteF_six b), numF_byteF, Nat.mod_eq_of_lt HBB.out, show (decide (v = u) && decide (a = b)) = false by rw [← Bool.decide_and, decide_eq_false_iff_not]; omega] at this)
      have F1 := Lib.hid (show decide (v < u) = false by simp; omega)
      have F2 := Lib.hid (show ((v : Int) == (u : Int)) = true by simp; omega)
      have F3 := Lib.hid (show decide (a < b) = true by simp; omega)
      clear g1 g2 HC
      go_upto_region 4 with fail
      refine wp_region_quiet (C := Kq w n n1 n2 v u a b c d) (by kernel_rfl) (by kernel_rfl) IQ.out.drew ?_
      (refine q_val (v := kyV v a) (by rfl) (fun w hC => run_loadVar_of 36 _ rfl c rfl 36 (kyA v a) _ hC.kc Try.underlying36 rfl SZ7.out) ?_; (try simp only [Act.put, List.getElem_toArray, List.getElem_cons_succ, List.getElem_cons_zero, List.setIfInBounds_toArray, List.set_cons_zero, List.set_cons_succ]))
      (refine q_val (v := kyV u b) (by rfl) (fun w hC => run_loadVar_of 36 _ rfl d rfl 36 (kyA u b) _ hC.kd Try.underlying36 rfl SZ7.out) ?_; (try simp only [Act.put, List.getElem_toArray, List.getElem_cons_succ, List.getElem_cons_zero, List.setIfInBounds_toArray, List.set_cons_zero, List.set_cons_succ]))
      (refine q_call (v := .bool true) 23 #[kyV v a, kyV u b] (by rfl) (fun w hC => by go_simp) (fun w hC => calls_in (HL.out _) (fun w' hb => hC.next hb)) ?_; (try simp only [Act.put, List.getElem_toArray, List.getElem_cons_succ, List.getElem_cons_zero, List.setIfInBounds_toArray, List.set_cons_zero, List.set_cons_succ]))
      (refine q_val (v := ?_) (by rfl) ?_ ?_; rotate_left; (· (intro w hC; go_simp; try with_reducible rfl)); (try simp only [Act.put, List.getElem_toArray, List.getElem_cons_succ, List.getElem_cons_zero, List.setIfInBounds_toArray, List.set_cons_zero, List.set_cons_succ]))
      (refine q_val (v := ?_) (by rfl) ?_ ?_; rotate_left; (· (intro w hC; have q := hC.c0; go_simp; try with_reducible rfl)); (try simp only [Act.put, List.getElem_toArray, List.getElem_cons_succ, List.getElem_cons_zero, List.setIfInBounds_toArray, List.set_cons_zero, List.set_cons_succ]))
      (refine q_val (v := ?_) (by rfl) ?_ ?_; rotate_left; (· (intro w hC; go_simp; try with_reducible rfl)); (try simp only [Act.put, List.getElem_toArray, List.getElem_cons_succ, List.getElem_cons_zero, List.setIfInBounds_toArray, List.set_cons_zero, List.set_cons_succ]))
      (refine q_val (v := ?_) (by rfl) ?_ ?_; rotate_left; (· (intro w hC; have q := hC.c1; go_simp; try with_reducible rfl)); (try simp only [Act.put, List.getElem_toArray, List.getElem_cons_succ, List.getElem_cons_zero, List.setIfInBounds_toArray, List.set_cons_zero, List.set_cons_succ]))
      (refine q_val (v := ?_) (by rfl) ?_ ?_; rotate_left; (· (intro w hC; have q := F1.out; go_simp; try with_reducible rfl)); (try simp only [Act.put, List.getElem_toArray, List.getElem_cons_succ, List.getElem_cons_zero, List.setIfInBounds_toArray, List.set_cons_zero, List.set_cons_succ]))
      (refine q_val (v := ?_) (by rfl) ?_ ?_; rotate_left; (· (intro w hC; go_simp; try with_reducible rfl)); (try simp only [Act.put, List.getElem_toArray, List.getElem_cons_succ, List.getElem_cons_zero, List.setIfInBounds_toArray, List.set_cons_zero, List.set_cons_succ]))
      (refine q_val (v := ?_) (by rfl) ?_ ?_; rotate_left; (· (intro w hC; go_simp; try with_reducible rfl)); (try simp only [Act.put, List.getElem_toArray, List.getElem_cons_succ, List.getElem_cons_zero, List.setIfInBounds_toArray, List.set_cons_zero, List.set_cons_succ]))
      (refine q_val (v := ?_) (by rfl) ?_ ?_; rotate_left; (· (intro w hC; have q := hC.c0; go_simp; try with_reducible rfl)); (try simp only [Act.put, List.getElem_toArray, List.getElem_cons_succ, List.getElem_cons_zero, List.setIfInBounds_toArray, List.set_cons_zero, List.set_cons_succ]))
      (refine q_val (v := ?_) (by rfl) ?_ ?_; rotate_left; (· (intro w hC; go_simp; try with_reducible rfl)); (try simp only [Act.put, List.getElem_toArray, List.getElem_cons_succ, List.getElem_cons_zero, List.setIfInBounds_toArray, List.set_cons_zero, List.set_cons_succ]))
      (refine q_val (v := ?_) (by rfl) ?_ ?_; rotate_left; (· (intro w hC; have q := hC.c1; go_simp; try with_reducible rfl)); (try simp only [Act.put, List.getElem_toArray, List.getElem_cons_succ, List.getElem_cons_zero, List.setIfInBounds_toArray, List.set_cons_zero, List.set_cons_succ]))
      (refine q_val (v := ?_) (by rfl) ?_ ?_; rotate_left; (· (intro w hC; have q := F2.out; go_simp; try with_reducible rfl)); (try simp only [Act.put, List.getElem_toArray, List.getElem_cons_succ, List.getElem_cons_zero, List.setIfInBounds_toArray, List.set_cons_zero, List.set_cons_succ]))
      (refine q_val (v := ?_) (by rfl) ?_ ?_; rotate_left; (· (intro w hC; go_simp; try with_reducible rfl)); (try simp only [Act.put, List.getElem_toArray, List.getElem_cons_succ, List.getElem_cons_zero, List.setIfInBounds_toArray, List.set_cons_zero, List.set_cons_succ]))
      (refine q_val (v := mac (byteF a)) (by rfl) (fun w hC => run_loadVar_of 31 _ rfl n1 rfl 31 (macA (byteF a)) _ hC.ka Try.underlying31 rfl SZ6.out) ?_; (try simp only [Act.put, List.getElem_toArray, List.getElem_cons_succ, List.getElem_cons_zero, List.setIfInBounds_toArray, List.set_cons_zero, List.set_cons_succ]))
      (refine q_call (v := .int .u64 (a : Nat)) 24 #[mac (byteF a)] (by rfl) (fun w hC => by go_simp) (fun w hC => calls_in (RA.out _) (fun w' hb => hC.next hb)) ?_; (try simp only [Act.put, List.getElem_toArray, List.getElem_cons_succ, List.getElem_cons_zero, List.setIfInBounds_toArray, List.set_cons_zero, List.set_cons_succ]))
      (refine q_val (v := mac (byteF b)) (by rfl) (fun w hC => run_loadVar_of 31 _ rfl n2 rfl 31 (macA (byteF b)) _ hC.kb Try.underlying31 rfl SZ6.out) ?_; (try simp only [Act.put, List.getElem_toArray, List.getElem_cons_succ, List.getElem_cons_zero, List.setIfInBounds_toArray, List.set_cons_zero, List.set_cons_succ]))
      (refine q_call (v := .int .u64 (b : Nat)) 24 #[mac (byteF b)] (by rfl) (fun w hC => by go_simp) (fun w hC => calls_in (RB.out _) (fun w' hb => hC.next hb)) ?_; (try simp only [Act.put, List.getElem_toArray, List.getElem_cons_succ, List.getElem_cons_zero, List.setIfInBounds_toArray, List.set_cons_zero, List.set_cons_succ]))
      (refine q_val (v := ?_) (by rfl) ?_ ?_; rotate_left; (· (intro w hC; have q := F3.out; go_simp; try with_reducible rfl)); (try simp only [Act.put, List.getElem_toArray, List.getElem_cons_succ, List.getElem_cons_zero, List.setIfInBounds_toArray, List.set_cons_zero, List.set_cons_succ]))
      (refine q_val (v := ?_) (by rfl) ?_ ?_; rotate_left; (· (intro w hC; go_simp; try with_reducible rfl)); (try simp only [Act.put, List.getElem_toArray, List.getElem_cons_succ, List.getElem_cons_zero, List.setIfInBounds_toArray, List.set_cons_zero, List.set_cons_succ]))
      (refine q_val (v := ?_) (by rfl) ?_ ?_; rotate_left; (· (intro w hC; go_simp; try with_reducible rfl)); (try simp only [Act.put, List.getElem_toArray, List.getElem_cons_succ, List.getElem_cons_zero, List.setIfInBounds_toArray, List.set_cons_zero, List.set_cons_succ]))
      (refine q_val (v := ?_) (by rfl) ?_ ?_; rotate_left; (· (intro w hC; go_simp; try with_reducible rfl)); (try simp only [Act.put, List.getElem_toArray, List.getElem_cons_succ, List.getElem_cons_zero, List.setIfInBounds_toArray, List.set_cons_zero, List.set_cons_succ]))
      (refine q_val (v := ?_) (by rfl) ?_ ?_; rotate_left; (· (intro w hC; go_simp; try with_reducible rfl)); (try simp only [Act.put, List.getElem_toArray, List.getElem_cons_succ, List.getElem_cons_zero, List.setIfInBounds_toArray, List.set_cons_zero, List.set_cons_succ]))
      (refine q_val (v := kyV v a) (by rfl) (fun w hC => run_loadVar_of 36 _ rfl c rfl 36 (kyA v a) _ hC.kc Try.underlying36 rfl SZ7.out) ?_; (try simp only [Act.put, List.getElem_toArray, List.getElem_cons_succ, List.getElem_cons_zero, List.setIfInBounds_toArray, List.set_cons_zero, List.set_cons_succ]))
      (refine q_val (v := kyV u b) (by rfl) (fun w hC => run_loadVar_of 36 _ rfl d rfl 36 (kyA u b) _ hC.kd Try.underlying36 rfl SZ7.out) ?_; (try simp only [Act.put, List.getElem_toArray, List.getElem_cons_succ, List.getElem_cons_zero, List.setIfInBounds_toArray, List.set_cons_zero, List.set_cons_succ]))
      (refine q_call (v := .bool true) 23 #[kyV v a, kyV u b] (by rfl) (fun w hC => by go_simp) (fun w hC => calls_in (HL.out _) (fun w' hb => hC.next hb)) ?_; (try simp only [Act.put, List.getElem_toArray, List.getElem_cons_succ, List.getElem_cons_zero, List.setIfInBounds_toArray, List.set_cons_zero, List.set_cons_succ]))
      (refine q_val (v := ?_) (by rfl) ?_ ?_; rotate_left; (· (intro w hC; go_simp; try with_reducible rfl)); (try simp only [Act.put, List.getElem_toArray, List.getElem_cons_succ, List.getElem_cons_zero, List.setIfInBounds_toArray, List.set_cons_zero, List.set_cons_succ]))
      (refine q_val (v := kyV u b) (by rfl) (fun w hC => run_loadVar_of 36 _ rfl d rfl 36 (kyA u b) _ hC.kd Try.underlying36 rfl SZ7.out) ?_; (try simp only [Act.put, List.getElem_toArray, List.getElem_cons_succ, List.getElem_cons_zero, List.setIfInBounds_toArray, List.set_cons_zero, List.set_cons_succ]))
      (refine q_val (v := kyV v a) (by rfl) (fun w hC => run_loadVar_of 36 _ rfl c rfl 36 (kyA v a) _ hC.kc Try.underlying36 rfl SZ7.out) ?_; (try simp only [Act.put, List.getElem_toArray, List.getElem_cons_succ, List.getElem_cons_zero, List.setIfInBounds_toArray, List.set_cons_zero, List.set_cons_succ]))
      (refine q_call (v := .bool false) 23 #[kyV u b, kyV v a] (by rfl) (fun w hC => by go_simp) (fun w hC => calls_in (HM.out _) (fun w' hb => hC.next hb)) ?_; (try simp only [Act.put, List.getElem_toArray, List.getElem_cons_succ, List.getElem_cons_zero, List.setIfInBounds_toArray, List.set_cons_zero, List.set_cons_succ]))
      (refine q_val (v := ?_) (by rfl) ?_ ?_; rotate_left; (· (intro w hC; go_simp; try with_reducible rfl)); (try simp only [Act.put, List.getElem_toArray, List.getElem_cons_succ, List.getElem_cons_zero, List.setIfInBounds_toArray, List.set_cons_zero, List.set_cons_succ]))
      (refine q_val (v := ?_) (by rfl) ?_ ?_; rotate_left; (· (intro w hC; go_simp; try with_reducible rfl)); (try simp only [Act.put, List.getElem_toArray, List.getElem_cons_succ, List.getElem_cons_zero, List.setIfInBounds_toArray, List.set_cons_zero, List.set_cons_succ]))
      (refine q_val (v := ?_) (by rfl) ?_ ?_; rotate_left; (· (intro w hC; go_simp; try with_reducible rfl)); (try simp only [Act.put, List.getElem_toArray, List.getElem_cons_succ, List.getElem_cons_zero, List.setIfInBounds_toArray, List.set_cons_zero, List.set_cons_succ]))
      (refine q_val (v := ?_) (by rfl) ?_ ?_; rotate_left; (· (intro w hC; go_simp; try with_reducible rfl)); (try simp only [Act.put, List.getElem_toArray, List.getElem_cons_succ, List.getElem_cons_zero, List.setIfInBounds_toArray, List.set_cons_zero, List.set_cons_succ]))
      (refine q_val (v := kyV v a) (by rfl) (fun w hC => run_loadVar_of 36 _ rfl c rfl 36 (kyA v a) _ hC.kc Try.underlying36 rfl SZ7.out) ?_; (try simp only [Act.put, List.getElem_toArray, List.getElem_cons_succ, List.getElem_cons_zero, List.setIfInBounds_toArray, List.set_cons_zero, List.set_cons_succ]))
      (refine q_val (v := kyV u b) (by rfl) (fun w hC => run_loadVar_of 36 _ rfl d rfl 36 (kyA u b) _ hC.kd Try.underlying36 rfl SZ7.out) ?_; (try simp only [Act.put, List.getElem_toArray, List.getElem_cons_succ, List.getElem_cons_zero, List.setIfInBounds_toArray, List.set_cons_zero, List.set_cons_succ]))
      (refine q_val (v := ?_) (by rfl) ?_ ?_; rotate_left; (· (intro w hC; have q := HE.out; go_simp; try with_reducible rfl)); (try simp only [Act.put, List.getElem_toArray, List.getElem_cons_succ, List.getElem_cons_zero, List.setIfInBounds_toArray, List.set_cons_zero, List.set_cons_succ]))
      (refine q_val (v := kyV v a) (by rfl) (fun w hC => run_loadVar_of 36 _ rfl c rfl 36 (kyA v a) _ hC.kc Try.underlying36 rfl SZ7.out) ?_; (try simp only [Act.put, List.getElem_toArray, List.getElem_cons_succ, List.getElem_cons_zero, List.setIfInBounds_toArray, List.set_cons_zero, List.set_cons_succ]))
      (refine q_val (v := kyV u b) (by rfl) (fun w hC => run_loadVar_of 36 _ rfl d rfl 36 (kyA u b) _ hC.kd Try.underlying36 rfl SZ7.out) ?_; (try simp only [Act.put, List.getElem_toArray, List.getElem_cons_succ, List.getElem_cons_zero, List.setIfInBounds_toArray, List.set_cons_zero, List.set_cons_succ]))
      (refine q_call (v := .bool true) 23 #[kyV v a, kyV u b] (by rfl) (fun w hC => by go_simp) (fun w hC => calls_in (HL.out _) (fun w' hb => hC.next hb)) ?_; (try simp only [Act.put, List.getElem_toArray, List.getElem_cons_succ, List.getElem_cons_zero, List.setIfInBounds_toArray, List.set_cons_zero, List.set_cons_succ]))
      (refine q_val (v := ?_) (by rfl) ?_ ?_; rotate_left; (· (intro w hC; go_simp; try with_reducible rfl)); (try simp only [Act.put, List.getElem_toArray, List.getElem_cons_succ, List.getElem_cons_zero, List.setIfInBounds_toArray, List.set_cons_zero, List.set_cons_succ]))
      (refine q_val (v := ?_) (by rfl) ?_ ?_; rotate_left; (· (intro w hC; go_simp; try with_reducible rfl)); (try simp only [Act.put, List.getElem_toArray, List.getElem_cons_succ, List.getElem_cons_zero, List.setIfInBounds_toArray, List.set_cons_zero, List.set_cons_succ]))
      (refine q_skip (by rfl) ?_; (try simp only [Act.put, List.getElem_toArray, List.getElem_cons_succ, List.getElem_cons_zero, List.setIfInBounds_toArray, List.set_cons_zero, List.set_cons_succ]))
      (refine q_skip (by rfl) ?_; (try simp only [Act.put, List.getElem_toArray, List.getElem_cons_succ, List.getElem_cons_zero, List.setIfInBounds_toArray, List.set_cons_zero, List.set_cons_succ]))
      (refine q_skip (by rfl) ?_; (try simp only [Act.put, List.getElem_toArray, List.getElem_cons_succ, List.getElem_cons_zero, List.setIfInBounds_toArray, List.set_cons_zero, List.set_cons_succ]))
      (refine q_skip (by rfl) ?_; (try simp only [Act.put, List.getElem_toArray, List.getElem_cons_succ, List.getElem_cons_zero, List.setIfInBounds_toArray, List.set_cons_zero, List.set_cons_succ]))
      (refine q_val (v := ?_) (by rfl) ?_ ?_; rotate_left; (· (intro w hC; go_simp; try with_reducible rfl)); (try simp only [Act.put, List.getElem_toArray, List.getElem_cons_succ, List.getElem_cons_zero, List.setIfInBounds_toArray, List.set_cons_zero, List.set_cons_succ]))
      (refine q_val (v := ?_) (by rfl) ?_ ?_; rotate_left; (· (intro w hC; go_simp; try with_reducible rfl)); (try simp only [Act.put, List.getElem_toArray, List.getElem_cons_succ, List.getElem_cons_zero, List.setIfInBounds_toArray, List.set_cons_zero, List.set_cons_succ]))
      (refine q_val (v := ?_) (by rfl) ?_ ?_; rotate_left; (· (intro w hC; go_simp; try with_reducible rfl)); (try simp only [Act.put, List.getElem_toArray, List.getElem_cons_succ, List.getElem_cons_zero, List.setIfInBounds_toArray, List.set_cons_zero, List.set_cons_succ]))
      (refine q_val (v := ?_) (by rfl) ?_ ?_; rotate_left; (· (intro w hC; go_simp; try with_reducible rfl)); (try simp only [Act.put, List.getElem_toArray, List.getElem_cons_succ, List.getElem_cons_zero, List.setIfInBounds_toArray, List.set_cons_zero, List.set_cons_succ]))
      refine wpQuiet_nil ?_
      intro w5 hC5
      have HB5 := Lib.hid hC5.below
      clear hC5
      go_wp2_with fail
      go_ret
      exact ⟨rfl, by rw [HN.out]; exact HB5.out⟩
    · -- same
      have HL := Lib.hid (show ∀ W, Calls Try.prog 23 #[kyV v a, kyV u b] W fun e w' => e = .returned (.bool false) ∧ Below W.heap.size W w' from fun W => by
        have := key_less v a u b HA.out HBB.out W
        rwa [show decide (keyN v a < keyN u b) = false by rw [decide_eq_false_iff_not, keyN_lt HA.out HBB.out]; omega] at this)
      have HM := Lib.hid (show ∀ W, Calls Try.prog 23 #[kyV u b, kyV v a] W fun e w' => e = .returned (.bool false) ∧ Below W.heap.size W w' from fun W => by
        have := key_less u b v a HBB.out HA.out W
        rwa [show decide (keyN u b < keyN v a) = false by rw [decide_eq_false_iff_not, keyN_lt HBB.out HA.out]; omega] at this)
      have HE := Lib.hid (show ∀ W : World, (Op.equalIn 10000 36 (kyV v a) (kyV u b)).run Try.prog W = .ok true W from fun W => by
        have := ky_eq v u (byteF a) (byteF b) W
        rwa [eqMac_num HA.out (byteF_six b), numF_byteF, Nat.mod_eq_of_lt HBB.out, show (decide (v = u) && decide (a = b)) = true by rw [← Bool.decide_and, decide_eq_true_iff]; omega] at this)
      have F1 := Lib.hid (show decide (v < u) = false by simp; omega)
      have F2 := Lib.hid (show ((v : Int) == (u : Int)) = true by simp; omega)
      have F3 := Lib.hid (show decide (a < b) = false by simp; omega)
      clear g1 g2 HC
      go_upto_region 4 with fail
      refine wp_region_quiet (C := Kq w n n1 n2 v u a b c d) (by kernel_rfl) (by kernel_rfl) IQ.out.drew ?_
      (refine q_val (v := kyV v a) (by rfl) (fun w hC => run_loadVar_of 36 _ rfl c rfl 36 (kyA v a) _ hC.kc Try.underlying36 rfl SZ7.out) ?_; (try simp only [Act.put, List.getElem_toArray, List.getElem_cons_succ, List.getElem_cons_zero, List.setIfInBounds_toArray, List.set_cons_zero, List.set_cons_succ]))
      (refine q_val (v := kyV u b) (by rfl) (fun w hC => run_loadVar_of 36 _ rfl d rfl 36 (kyA u b) _ hC.kd Try.underlying36 rfl SZ7.out) ?_; (try simp only [Act.put, List.getElem_toArray, List.getElem_cons_succ, List.getElem_cons_zero, List.setIfInBounds_toArray, List.set_cons_zero, List.set_cons_succ]))
      (refine q_call (v := .bool false) 23 #[kyV v a, kyV u b] (by rfl) (fun w hC => by go_simp) (fun w hC => calls_in (HL.out _) (fun w' hb => hC.next hb)) ?_; (try simp only [Act.put, List.getElem_toArray, List.getElem_cons_succ, List.getElem_cons_zero, List.setIfInBounds_toArray, List.set_cons_zero, List.set_cons_succ]))
      (refine q_val (v := ?_) (by rfl) ?_ ?_; rotate_left; (· (intro w hC; go_simp; try with_reducible rfl)); (try simp only [Act.put, List.getElem_toArray, List.getElem_cons_succ, List.getElem_cons_zero, List.setIfInBounds_toArray, List.set_cons_zero, List.set_cons_succ]))
      (refine q_val (v := ?_) (by rfl) ?_ ?_; rotate_left; (· (intro w hC; have q := hC.c0; go_simp; try with_reducible rfl)); (try simp only [Act.put, List.getElem_toArray, List.getElem_cons_succ, List.getElem_cons_zero, List.setIfInBounds_toArray, List.set_cons_zero, List.set_cons_succ]))
      (refine q_val (v := ?_) (by rfl) ?_ ?_; rotate_left; (· (intro w hC; go_simp; try with_reducible rfl)); (try simp only [Act.put, List.getElem_toArray, List.getElem_cons_succ, List.getElem_cons_zero, List.setIfInBounds_toArray, List.set_cons_zero, List.set_cons_succ]))
      (refine q_val (v := ?_) (by rfl) ?_ ?_; rotate_left; (· (intro w hC; have q := hC.c1; go_simp; try with_reducible rfl)); (try simp only [Act.put, List.getElem_toArray, List.getElem_cons_succ, List.getElem_cons_zero, List.setIfInBounds_toArray, List.set_cons_zero, List.set_cons_succ]))
      (refine q_val (v := ?_) (by rfl) ?_ ?_; rotate_left; (· (intro w hC; have q := F1.out; go_simp; try with_reducible rfl)); (try simp only [Act.put, List.getElem_toArray, List.getElem_cons_succ, List.getElem_cons_zero, List.setIfInBounds_toArray, List.set_cons_zero, List.set_cons_succ]))
      (refine q_val (v := ?_) (by rfl) ?_ ?_; rotate_left; (· (intro w hC; go_simp; try with_reducible rfl)); (try simp only [Act.put, List.getElem_toArray, List.getElem_cons_succ, List.getElem_cons_zero, List.setIfInBounds_toArray, List.set_cons_zero, List.set_cons_succ]))
      (refine q_val (v := ?_) (by rfl) ?_ ?_; rotate_left; (· (intro w hC; go_simp; try with_reducible rfl)); (try simp only [Act.put, List.getElem_toArray, List.getElem_cons_succ, List.getElem_cons_zero, List.setIfInBounds_toArray, List.set_cons_zero, List.set_cons_succ]))
      (refine q_val (v := ?_) (by rfl) ?_ ?_; rotate_left; (· (intro w hC; have q := hC.c0; go_simp; try with_reducible rfl)); (try simp only [Act.put, List.getElem_toArray, List.getElem_cons_succ, List.getElem_cons_zero, List.setIfInBounds_toArray, List.set_cons_zero, List.set_cons_succ]))
      (refine q_val (v := ?_) (by rfl) ?_ ?_; rotate_left; (· (intro w hC; go_simp; try with_reducible rfl)); (try simp only [Act.put, List.getElem_toArray, List.getElem_cons_succ, List.getElem_cons_zero, List.setIfInBounds_toArray, List.set_cons_zero, List.set_cons_succ]))
      (refine q_val (v := ?_) (by rfl) ?_ ?_; rotate_left; (· (intro w hC; have q := hC.c1; go_simp; try with_reducible rfl)); (try simp only [Act.put, List.getElem_toArray, List.getElem_cons_succ, List.getElem_cons_zero, List.setIfInBounds_toArray, List.set_cons_zero, List.set_cons_succ]))
      (refine q_val (v := ?_) (by rfl) ?_ ?_; rotate_left; (· (intro w hC; have q := F2.out; go_simp; try with_reducible rfl)); (try simp only [Act.put, List.getElem_toArray, List.getElem_cons_succ, List.getElem_cons_zero, List.setIfInBounds_toArray, List.set_cons_zero, List.set_cons_succ]))
      (refine q_val (v := ?_) (by rfl) ?_ ?_; rotate_left; (· (intro w hC; go_simp; try with_reducible rfl)); (try simp only [Act.put, List.getElem_toArray, List.getElem_cons_succ, List.getElem_cons_zero, List.setIfInBounds_toArray, List.set_cons_zero, List.set_cons_succ]))
      (refine q_val (v := mac (byteF a)) (by rfl) (fun w hC => run_loadVar_of 31 _ rfl n1 rfl 31 (macA (byteF a)) _ hC.ka Try.underlying31 rfl SZ6.out) ?_; (try simp only [Act.put, List.getElem_toArray, List.getElem_cons_succ, List.getElem_cons_zero, List.setIfInBounds_toArray, List.set_cons_zero, List.set_cons_succ]))
      (refine q_call (v := .int .u64 (a : Nat)) 24 #[mac (byteF a)] (by rfl) (fun w hC => by go_simp) (fun w hC => calls_in (RA.out _) (fun w' hb => hC.next hb)) ?_; (try simp only [Act.put, List.getElem_toArray, List.getElem_cons_succ, List.getElem_cons_zero, List.setIfInBounds_toArray, List.set_cons_zero, List.set_cons_succ]))
      (refine q_val (v := mac (byteF b)) (by rfl) (fun w hC => run_loadVar_of 31 _ rfl n2 rfl 31 (macA (byteF b)) _ hC.kb Try.underlying31 rfl SZ6.out) ?_; (try simp only [Act.put, List.getElem_toArray, List.getElem_cons_succ, List.getElem_cons_zero, List.setIfInBounds_toArray, List.set_cons_zero, List.set_cons_succ]))
      (refine q_call (v := .int .u64 (b : Nat)) 24 #[mac (byteF b)] (by rfl) (fun w hC => by go_simp) (fun w hC => calls_in (RB.out _) (fun w' hb => hC.next hb)) ?_; (try simp only [Act.put, List.getElem_toArray, List.getElem_cons_succ, List.getElem_cons_zero, List.setIfInBounds_toArray, List.set_cons_zero, List.set_cons_succ]))
      (refine q_val (v := ?_) (by rfl) ?_ ?_; rotate_left; (· (intro w hC; have q := F3.out; go_simp; try with_reducible rfl)); (try simp only [Act.put, List.getElem_toArray, List.getElem_cons_succ, List.getElem_cons_zero, List.setIfInBounds_toArray, List.set_cons_zero, List.set_cons_succ]))
      (refine q_val (v := ?_) (by rfl) ?_ ?_; rotate_left; (· (intro w hC; go_simp; try with_reducible rfl)); (try simp only [Act.put, List.getElem_toArray, List.getElem_cons_succ, List.getElem_cons_zero, List.setIfInBounds_toArray, List.set_cons_zero, List.set_cons_succ]))
      (refine q_val (v := ?_) (by rfl) ?_ ?_; rotate_left; (· (intro w hC; go_simp; try with_reducible rfl)); (try simp only [Act.put, List.getElem_toArray, List.getElem_cons_succ, List.getElem_cons_zero, List.setIfInBounds_toArray, List.set_cons_zero, List.set_cons_succ]))
      (refine q_val (v := ?_) (by rfl) ?_ ?_; rotate_left; (· (intro w hC; go_simp; try with_reducible rfl)); (try simp only [Act.put, List.getElem_toArray, List.getElem_cons_succ, List.getElem_cons_zero, List.setIfInBounds_toArray, List.set_cons_zero, List.set_cons_succ]))
      (refine q_val (v := ?_) (by rfl) ?_ ?_; rotate_left; (· (intro w hC; go_simp; try with_reducible rfl)); (try simp only [Act.put, List.getElem_toArray, List.getElem_cons_succ, List.getElem_cons_zero, List.setIfInBounds_toArray, List.set_cons_zero, List.set_cons_succ]))
      (refine q_val (v := kyV v a) (by rfl) (fun w hC => run_loadVar_of 36 _ rfl c rfl 36 (kyA v a) _ hC.kc Try.underlying36 rfl SZ7.out) ?_; (try simp only [Act.put, List.getElem_toArray, List.getElem_cons_succ, List.getElem_cons_zero, List.setIfInBounds_toArray, List.set_cons_zero, List.set_cons_succ]))
      (refine q_val (v := kyV u b) (by rfl) (fun w hC => run_loadVar_of 36 _ rfl d rfl 36 (kyA u b) _ hC.kd Try.underlying36 rfl SZ7.out) ?_; (try simp only [Act.put, List.getElem_toArray, List.getElem_cons_succ, List.getElem_cons_zero, List.setIfInBounds_toArray, List.set_cons_zero, List.set_cons_succ]))
      (refine q_call (v := .bool false) 23 #[kyV v a, kyV u b] (by rfl) (fun w hC => by go_simp) (fun w hC => calls_in (HL.out _) (fun w' hb => hC.next hb)) ?_; (try simp only [Act.put, List.getElem_toArray, List.getElem_cons_succ, List.getElem_cons_zero, List.setIfInBounds_toArray, List.set_cons_zero, List.set_cons_succ]))
      (refine q_val (v := ?_) (by rfl) ?_ ?_; rotate_left; (· (intro w hC; go_simp; try with_reducible rfl)); (try simp only [Act.put, List.getElem_toArray, List.getElem_cons_succ, List.getElem_cons_zero, List.setIfInBounds_toArray, List.set_cons_zero, List.set_cons_succ]))
      (refine q_skip (by rfl) ?_; (try simp only [Act.put, List.getElem_toArray, List.getElem_cons_succ, List.getElem_cons_zero, List.setIfInBounds_toArray, List.set_cons_zero, List.set_cons_succ]))
      (refine q_skip (by rfl) ?_; (try simp only [Act.put, List.getElem_toArray, List.getElem_cons_succ, List.getElem_cons_zero, List.setIfInBounds_toArray, List.set_cons_zero, List.set_cons_succ]))
      (refine q_skip (by rfl) ?_; (try simp only [Act.put, List.getElem_toArray, List.getElem_cons_succ, List.getElem_cons_zero, List.setIfInBounds_toArray, List.set_cons_zero, List.set_cons_succ]))
      (refine q_val (v := ?_) (by rfl) ?_ ?_; rotate_left; (· (intro w hC; go_simp; try with_reducible rfl)); (try simp only [Act.put, List.getElem_toArray, List.getElem_cons_succ, List.getElem_cons_zero, List.setIfInBounds_toArray, List.set_cons_zero, List.set_cons_succ]))
      (refine q_val (v := ?_) (by rfl) ?_ ?_; rotate_left; (· (intro w hC; go_simp; try with_reducible rfl)); (try simp only [Act.put, List.getElem_toArray, List.getElem_cons_succ, List.getElem_cons_zero, List.setIfInBounds_toArray, List.set_cons_zero, List.set_cons_succ]))
      (refine q_val (v := ?_) (by rfl) ?_ ?_; rotate_left; (· (intro w hC; go_simp; try with_reducible rfl)); (try simp only [Act.put, List.getElem_toArray, List.getElem_cons_succ, List.getElem_cons_zero, List.setIfInBounds_toArray, List.set_cons_zero, List.set_cons_succ]))
      (refine q_val (v := ?_) (by rfl) ?_ ?_; rotate_left; (· (intro w hC; go_simp; try with_reducible rfl)); (try simp only [Act.put, List.getElem_toArray, List.getElem_cons_succ, List.getElem_cons_zero, List.setIfInBounds_toArray, List.set_cons_zero, List.set_cons_succ]))
      (refine q_val (v := kyV v a) (by rfl) (fun w hC => run_loadVar_of 36 _ rfl c rfl 36 (kyA v a) _ hC.kc Try.underlying36 rfl SZ7.out) ?_; (try simp only [Act.put, List.getElem_toArray, List.getElem_cons_succ, List.getElem_cons_zero, List.setIfInBounds_toArray, List.set_cons_zero, List.set_cons_succ]))
      (refine q_val (v := kyV u b) (by rfl) (fun w hC => run_loadVar_of 36 _ rfl d rfl 36 (kyA u b) _ hC.kd Try.underlying36 rfl SZ7.out) ?_; (try simp only [Act.put, List.getElem_toArray, List.getElem_cons_succ, List.getElem_cons_zero, List.setIfInBounds_toArray, List.set_cons_zero, List.set_cons_succ]))
      (refine q_val (v := ?_) (by rfl) ?_ ?_; rotate_left; (· (intro w hC; have q := HE.out; go_simp; try with_reducible rfl)); (try simp only [Act.put, List.getElem_toArray, List.getElem_cons_succ, List.getElem_cons_zero, List.setIfInBounds_toArray, List.set_cons_zero, List.set_cons_succ]))
      (refine q_val (v := kyV v a) (by rfl) (fun w hC => run_loadVar_of 36 _ rfl c rfl 36 (kyA v a) _ hC.kc Try.underlying36 rfl SZ7.out) ?_; (try simp only [Act.put, List.getElem_toArray, List.getElem_cons_succ, List.getElem_cons_zero, List.setIfInBounds_toArray, List.set_cons_zero, List.set_cons_succ]))
      (refine q_val (v := kyV u b) (by rfl) (fun w hC => run_loadVar_of 36 _ rfl d rfl 36 (kyA u b) _ hC.kd Try.underlying36 rfl SZ7.out) ?_; (try simp only [Act.put, List.getElem_toArray, List.getElem_cons_succ, List.getElem_cons_zero, List.setIfInBounds_toArray, List.set_cons_zero, List.set_cons_succ]))
      (refine q_call (v := .bool false) 23 #[kyV v a, kyV u b] (by rfl) (fun w hC => by go_simp) (fun w hC => calls_in (HL.out _) (fun w' hb => hC.next hb)) ?_; (try simp only [Act.put, List.getElem_toArray, List.getElem_cons_succ, List.getElem_cons_zero, List.setIfInBounds_toArray, List.set_cons_zero, List.set_cons_succ]))
      (refine q_val (v := ?_) (by rfl) ?_ ?_; rotate_left; (· (intro w hC; go_simp; try with_reducible rfl)); (try simp only [Act.put, List.getElem_toArray, List.getElem_cons_succ, List.getElem_cons_zero, List.setIfInBounds_toArray, List.set_cons_zero, List.set_cons_succ]))
      (refine q_val (v := ?_) (by rfl) ?_ ?_; rotate_left; (· (intro w hC; go_simp; try with_reducible rfl)); (try simp only [Act.put, List.getElem_toArray, List.getElem_cons_succ, List.getElem_cons_zero, List.setIfInBounds_toArray, List.set_cons_zero, List.set_cons_succ]))
      (refine q_val (v := kyV u b) (by rfl) (fun w hC => run_loadVar_of 36 _ rfl d rfl 36 (kyA u b) _ hC.kd Try.underlying36 rfl SZ7.out) ?_; (try simp only [Act.put, List.getElem_toArray, List.getElem_cons_succ, List.getElem_cons_zero, List.setIfInBounds_toArray, List.set_cons_zero, List.set_cons_succ]))
      (refine q_val (v := kyV v a) (by rfl) (fun w hC => run_loadVar_of 36 _ rfl c rfl 36 (kyA v a) _ hC.kc Try.underlying36 rfl SZ7.out) ?_; (try simp only [Act.put, List.getElem_toArray, List.getElem_cons_succ, List.getElem_cons_zero, List.setIfInBounds_toArray, List.set_cons_zero, List.set_cons_succ]))
      (refine q_call (v := .bool false) 23 #[kyV u b, kyV v a] (by rfl) (fun w hC => by go_simp) (fun w hC => calls_in (HM.out _) (fun w' hb => hC.next hb)) ?_; (try simp only [Act.put, List.getElem_toArray, List.getElem_cons_succ, List.getElem_cons_zero, List.setIfInBounds_toArray, List.set_cons_zero, List.set_cons_succ]))
      (refine q_val (v := ?_) (by rfl) ?_ ?_; rotate_left; (· (intro w hC; go_simp; try with_reducible rfl)); (try simp only [Act.put, List.getElem_toArray, List.getElem_cons_succ, List.getElem_cons_zero, List.setIfInBounds_toArray, List.set_cons_zero, List.set_cons_succ]))
      (refine q_val (v := ?_) (by rfl) ?_ ?_; rotate_left; (· (intro w hC; go_simp; try with_reducible rfl)); (try simp only [Act.put, List.getElem_toArray, List.getElem_cons_succ, List.getElem_cons_zero, List.setIfInBounds_toArray, List.set_cons_zero, List.set_cons_succ]))
      (refine q_val (v := ?_) (by rfl) ?_ ?_; rotate_left; (· (intro w hC; go_simp; try with_reducible rfl)); (try simp only [Act.put, List.getElem_toArray, List.getElem_cons_succ, List.getElem_cons_zero, List.setIfInBounds_toArray, List.set_cons_zero, List.set_cons_succ]))
      (refine q_val (v := ?_) (by rfl) ?_ ?_; rotate_left; (· (intro w hC; go_simp; try with_reducible rfl)); (try simp only [Act.put, List.getElem_toArray, List.getElem_cons_succ, List.getElem_cons_zero, List.setIfInBounds_toArray, List.set_cons_zero, List.set_cons_succ]))
      (refine q_val (v := ?_) (by rfl) ?_ ?_; rotate_left; (· (intro w hC; go_simp; try with_reducible rfl)); (try simp only [Act.put, List.getElem_toArray, List.getElem_cons_succ, List.getElem_cons_zero, List.setIfInBounds_toArray, List.set_cons_zero, List.set_cons_succ]))
      refine wpQuiet_nil ?_
      intro w5 hC5
      have HB5 := Lib.hid hC5.below
      clear hC5
      go_wp2_with fail
      go_ret
      exact ⟨rfl, by rw [HN.out]; exact HB5.out⟩
    · -- v = u, b < a
      have HL := Lib.hid (show ∀ W, Calls Try.prog 23 #[kyV v a, kyV u b] W fun e w' => e = .returned (.bool false) ∧ Below W.heap.size W w' from fun W => by
        have := key_less v a u b HA.out HBB.out W
        rwa [show decide (keyN v a < keyN u b) = false by rw [decide_eq_false_iff_not, keyN_lt HA.out HBB.out]; omega] at this)
      have HM := Lib.hid (show ∀ W, Calls Try.prog 23 #[kyV u b, kyV v a] W fun e w' => e = .returned (.bool true) ∧ Below W.heap.size W w' from fun W => by
        have := key_less u b v a HBB.out HA.out W
        rwa [show decide (keyN u b < keyN v a) = true by rw [decide_eq_true_iff, keyN_lt HBB.out HA.out]; omega] at this)
      have HE := Lib.hid (show ∀ W : World, (Op.equalIn 10000 36 (kyV v a) (kyV u b)).run Try.prog W = .ok false W from fun W => by
        have := ky_eq v u (byteF a) (byteF b) W
        rwa [eqMac_num HA.out (byteF_six b), numF_byteF, Nat.mod_eq_of_lt HBB.out, show (decide (v = u) && decide (a = b)) = false by rw [← Bool.decide_and, decide_eq_false_iff_not]; omega] at this)
      have F1 := Lib.hid (show decide (v < u) = false by simp; omega)
      have F2 := Lib.hid (show ((v : Int) == (u : Int)) = true by simp; omega)
      have F3 := Lib.hid (show decide (a < b) = false by simp; omega)
      clear g1 g2 HC
      go_upto_region 4 with fail
      refine wp_region_quiet (C := Kq w n n1 n2 v u a b c d) (by kernel_rfl) (by kernel_rfl) IQ.out.drew ?_
      (refine q_val (v := kyV v a) (by rfl) (fun w hC => run_loadVar_of 36 _ rfl c rfl 36 (kyA v a) _ hC.kc Try.underlying36 rfl SZ7.out) ?_; (try simp only [Act.put, List.getElem_toArray, List.getElem_cons_succ, List.getElem_cons_zero, List.setIfInBounds_toArray, List.set_cons_zero, List.set_cons_succ]))
      (refine q_val (v := kyV u b) (by rfl) (fun w hC => run_loadVar_of 36 _ rfl d rfl 36 (kyA u b) _ hC.kd Try.underlying36 rfl SZ7.out) ?_; (try simp only [Act.put, List.getElem_toArray, List.getElem_cons_succ, List.getElem_cons_zero, List.setIfInBounds_toArray, List.set_cons_zero, List.set_cons_succ]))
      (refine q_call (v := .bool false) 23 #[kyV v a, kyV u b] (by rfl) (fun w hC => by go_simp) (fun w hC => calls_in (HL.out _) (fun w' hb => hC.next hb)) ?_; (try simp only [Act.put, List.getElem_toArray, List.getElem_cons_succ, List.getElem_cons_zero, List.setIfInBounds_toArray, List.set_cons_zero, List.set_cons_succ]))
      (refine q_val (v := ?_) (by rfl) ?_ ?_; rotate_left; (· (intro w hC; go_simp; try with_reducible rfl)); (try simp only [Act.put, List.getElem_toArray, List.getElem_cons_succ, List.getElem_cons_zero, List.setIfInBounds_toArray, List.set_cons_zero, List.set_cons_succ]))
      (refine q_val (v := ?_) (by rfl) ?_ ?_; rotate_left; (· (intro w hC; have q := hC.c0; go_simp; try with_reducible rfl)); (try simp only [Act.put, List.getElem_toArray, List.getElem_cons_succ, List.getElem_cons_zero, List.setIfInBounds_toArray, List.set_cons_zero, List.set_cons_succ]))
      (refine q_val (v := ?_) (by rfl) ?_ ?_; rotate_left; (· (intro w hC; go_simp; try with_reducible rfl)); (try simp only [Act.put, List.getElem_toArray, List.getElem_cons_succ, List.getElem_cons_zero, List.setIfInBounds_toArray, List.set_cons_zero, List.set_cons_succ]))
      (refine q_val (v := ?_) (by rfl) ?_ ?_; rotate_left; (· (intro w hC; have q := hC.c1; go_simp; try with_reducible rfl)); (try simp only [Act.put, List.getElem_toArray, List.getElem_cons_succ, List.getElem_cons_zero, List.setIfInBounds_toArray, List.set_cons_zero, List.set_cons_succ]))
      (refine q_val (v := ?_) (by rfl) ?_ ?_; rotate_left; (· (intro w hC; have q := F1.out; go_simp; try with_reducible rfl)); (try simp only [Act.put, List.getElem_toArray, List.getElem_cons_succ, List.getElem_cons_zero, List.setIfInBounds_toArray, List.set_cons_zero, List.set_cons_succ]))
      (refine q_val (v := ?_) (by rfl) ?_ ?_; rotate_left; (· (intro w hC; go_simp; try with_reducible rfl)); (try simp only [Act.put, List.getElem_toArray, List.getElem_cons_succ, List.getElem_cons_zero, List.setIfInBounds_toArray, List.set_cons_zero, List.set_cons_succ]))
      (refine q_val (v := ?_) (by rfl) ?_ ?_; rotate_left; (· (intro w hC; go_simp; try with_reducible rfl)); (try simp only [Act.put, List.getElem_toArray, List.getElem_cons_succ, List.getElem_cons_zero, List.setIfInBounds_toArray, List.set_cons_zero, List.set_cons_succ]))
      (refine q_val (v := ?_) (by rfl) ?_ ?_; rotate_left; (· (intro w hC; have q := hC.c0; go_simp; try with_reducible rfl)); (try simp only [Act.put, List.getElem_toArray, List.getElem_cons_succ, List.getElem_cons_zero, List.setIfInBounds_toArray, List.set_cons_zero, List.set_cons_succ]))
      (refine q_val (v := ?_) (by rfl) ?_ ?_; rotate_left; (· (intro w hC; go_simp; try with_reducible rfl)); (try simp only [Act.put, List.getElem_toArray, List.getElem_cons_succ, List.getElem_cons_zero, List.setIfInBounds_toArray, List.set_cons_zero, List.set_cons_succ]))
      (refine q_val (v := ?_) (by rfl) ?_ ?_; rotate_left; (· (intro w hC; have q := hC.c1; go_simp; try with_reducible rfl)); (try simp only [Act.put, List.getElem_toArray, List.getElem_cons_succ, List.getElem_cons_zero, List.setIfInBounds_toArray, List.set_cons_zero, List.set_cons_succ]))
      (refine q_val (v := ?_) (by rfl) ?_ ?_; rotate_left; (· (intro w hC; have q := F2.out; go_simp; try with_reducible rfl)); (try simp only [Act.put, List.getElem_toArray, List.getElem_cons_succ, List.getElem_cons_zero, List.setIfInBounds_toArray, List.set_cons_zero, List.set_cons_succ]))
      (refine q_val (v := ?_) (by rfl) ?_ ?_; rotate_left; (· (intro w hC; go_simp; try with_reducible rfl)); (try simp only [Act.put, List.getElem_toArray, List.getElem_cons_succ, List.getElem_cons_zero, List.setIfInBounds_toArray, List.set_cons_zero, List.set_cons_succ]))
      (refine q_val (v := mac (byteF a)) (by rfl) (fun w hC => run_loadVar_of 31 _ rfl n1 rfl 31 (macA (byteF a)) _ hC.ka Try.underlying31 rfl SZ6.out) ?_; (try simp only [Act.put, List.getElem_toArray, List.getElem_cons_succ, List.getElem_cons_zero, List.setIfInBounds_toArray, List.set_cons_zero, List.set_cons_succ]))
      (refine q_call (v := .int .u64 (a : Nat)) 24 #[mac (byteF a)] (by rfl) (fun w hC => by go_simp) (fun w hC => calls_in (RA.out _) (fun w' hb => hC.next hb)) ?_; (try simp only [Act.put, List.getElem_toArray, List.getElem_cons_succ, List.getElem_cons_zero, List.setIfInBounds_toArray, List.set_cons_zero, List.set_cons_succ]))
      (refine q_val (v := mac (byteF b)) (by rfl) (fun w hC => run_loadVar_of 31 _ rfl n2 rfl 31 (macA (byteF b)) _ hC.kb Try.underlying31 rfl SZ6.out) ?_; (try simp only [Act.put, List.getElem_toArray, List.getElem_cons_succ, List.getElem_cons_zero, List.setIfInBounds_toArray, List.set_cons_zero, List.set_cons_succ]))
      (refine q_call (v := .int .u64 (b : Nat)) 24 #[mac (byteF b)] (by rfl) (fun w hC => by go_simp) (fun w hC => calls_in (RB.out _) (fun w' hb => hC.next hb)) ?_; (try simp only [Act.put, List.getElem_toArray, List.getElem_cons_succ, List.getElem_cons_zero, List.setIfInBounds_toArray, List.set_cons_zero, List.set_cons_succ]))
      (refine q_val (v := ?_) (by rfl) ?_ ?_; rotate_left; (· (intro w hC; have q := F3.out; go_simp; try with_reducible rfl)); (try simp only [Act.put, List.getElem_toArray, List.getElem_cons_succ, List.getElem_cons_zero, List.setIfInBounds_toArray, List.set_cons_zero, List.set_cons_succ]))
      (refine q_val (v := ?_) (by rfl) ?_ ?_; rotate_left; (· (intro w hC; go_simp; try with_reducible rfl)); (try simp only [Act.put, List.getElem_toArray, List.getElem_cons_succ, List.getElem_cons_zero, List.setIfInBounds_toArray, List.set_cons_zero, List.set_cons_succ]))
      (refine q_val (v := ?_) (by rfl) ?_ ?_; rotate_left; (· (intro w hC; go_simp; try with_reducible rfl)); (try simp only [Act.put, List.getElem_toArray, List.getElem_cons_succ, List.getElem_cons_zero, List.setIfInBounds_toArray, List.set_cons_zero, List.set_cons_succ]))
      (refine q_val (v := ?_) (by rfl) ?_ ?_; rotate_left; (· (intro w hC; go_simp; try with_reducible rfl)); (try simp only [Act.put, List.getElem_toArray, List.getElem_cons_succ, List.getElem_cons_zero, List.setIfInBounds_toArray, List.set_cons_zero, List.set_cons_succ]))
      (refine q_val (v := ?_) (by rfl) ?_ ?_; rotate_left; (· (intro w hC; go_simp; try with_reducible rfl)); (try simp only [Act.put, List.getElem_toArray, List.getElem_cons_succ, List.getElem_cons_zero, List.setIfInBounds_toArray, List.set_cons_zero, List.set_cons_succ]))
      (refine q_val (v := kyV v a) (by rfl) (fun w hC => run_loadVar_of 36 _ rfl c rfl 36 (kyA v a) _ hC.kc Try.underlying36 rfl SZ7.out) ?_; (try simp only [Act.put, List.getElem_toArray, List.getElem_cons_succ, List.getElem_cons_zero, List.setIfInBounds_toArray, List.set_cons_zero, List.set_cons_succ]))
      (refine q_val (v := kyV u b) (by rfl) (fun w hC => run_loadVar_of 36 _ rfl d rfl 36 (kyA u b) _ hC.kd Try.underlying36 rfl SZ7.out) ?_; (try simp only [Act.put, List.getElem_toArray, List.getElem_cons_succ, List.getElem_cons_zero, List.setIfInBounds_toArray, List.set_cons_zero, List.set_cons_succ]))
      (refine q_call (v := .bool false) 23 #[kyV v a, kyV u b] (by rfl) (fun w hC => by go_simp) (fun w hC => calls_in (HL.out _) (fun w' hb => hC.next hb)) ?_; (try simp only [Act.put, List.getElem_toArray, List.getElem_cons_succ, List.getElem_cons_zero, List.setIfInBounds_toArray, List.set_cons_zero, List.set_cons_succ]))
      (refine q_val (v := ?_) (by rfl) ?_ ?_; rotate_left; (· (intro w hC; go_simp; try with_reducible rfl)); (try simp only [Act.put, List.getElem_toArray, List.getElem_cons_succ, List.getElem_cons_zero, List.setIfInBounds_toArray, List.set_cons_zero, List.set_cons_succ]))
      (refine q_skip (by rfl) ?_; (try simp only [Act.put, List.getElem_toArray, List.getElem_cons_succ, List.getElem_cons_zero, List.setIfInBounds_toArray, List.set_cons_zero, List.set_cons_succ]))
      (refine q_skip (by rfl) ?_; (try simp only [Act.put, List.getElem_toArray, List.getElem_cons_succ, List.getElem_cons_zero, List.setIfInBounds_toArray, List.set_cons_zero, List.set_cons_succ]))
      (refine q_skip (by rfl) ?_; (try simp only [Act.put, List.getElem_toArray, List.getElem_cons_succ, List.getElem_cons_zero, List.setIfInBounds_toArray, List.set_cons_zero, List.set_cons_succ]))
      (refine q_val (v := ?_) (by rfl) ?_ ?_; rotate_left; (· (intro w hC; go_simp; try with_reducible rfl)); (try simp only [Act.put, List.getElem_toArray, List.getElem_cons_succ, List.getElem_cons_zero, List.setIfInBounds_toArray, List.set_cons_zero, List.set_cons_succ]))
      (refine q_val (v := ?_) (by rfl) ?_ ?_; rotate_left; (· (intro w hC; go_simp; try with_reducible rfl)); (try simp only [Act.put, List.getElem_toArray, List.getElem_cons_succ, List.getElem_cons_zero, List.setIfInBounds_toArray, List.set_cons_zero, List.set_cons_succ]))
      (refine q_val (v := ?_) (by rfl) ?_ ?_; rotate_left; (· (intro w hC; go_simp; try with_reducible rfl)); (try simp only [Act.put, List.getElem_toArray, List.getElem_cons_succ, List.getElem_cons_zero, List.setIfInBounds_toArray, List.set_cons_zero, List.set_cons_succ]))
      (refine q_val (v := ?_) (by rfl) ?_ ?_; rotate_left; (· (intro w hC; go_simp; try with_reducible rfl)); (try simp only [Act.put, List.getElem_toArray, List.getElem_cons_succ, List.getElem_cons_zero, List.setIfInBounds_toArray, List.set_cons_zero, List.set_cons_succ]))
      (refine q_val (v := kyV v a) (by rfl) (fun w hC => run_loadVar_of 36 _ rfl c rfl 36 (kyA v a) _ hC.kc Try.underlying36 rfl SZ7.out) ?_; (try simp only [Act.put, List.getElem_toArray, List.getElem_cons_succ, List.getElem_cons_zero, List.setIfInBounds_toArray, List.set_cons_zero, List.set_cons_succ]))
      (refine q_val (v := kyV u b) (by rfl) (fun w hC => run_loadVar_of 36 _ rfl d rfl 36 (kyA u b) _ hC.kd Try.underlying36 rfl SZ7.out) ?_; (try simp only [Act.put, List.getElem_toArray, List.getElem_cons_succ, List.getElem_cons_zero, List.setIfInBounds_toArray, List.set_cons_zero, List.set_cons_succ]))
      (refine q_val (v := ?_) (by rfl) ?_ ?_; rotate_left; (· (intro w hC; have q := HE.out; go_simp; try with_reducible rfl)); (try simp only [Act.put, List.getElem_toArray, List.getElem_cons_succ, List.getElem_cons_zero, List.setIfInBounds_toArray, List.set_cons_zero, List.set_cons_succ]))
      (refine q_val (v := kyV v a) (by rfl) (fun w hC => run_loadVar_of 36 _ rfl c rfl 36 (kyA v a) _ hC.kc Try.underlying36 rfl SZ7.out) ?_; (try simp only [Act.put, List.getElem_toArray, List.getElem_cons_succ, List.getElem_cons_zero, List.setIfInBounds_toArray, List.set_cons_zero, List.set_cons_succ]))
      (refine q_val (v := kyV u b) (by rfl) (fun w hC => run_loadVar_of 36 _ rfl d rfl 36 (kyA u b) _ hC.kd Try.underlying36 rfl SZ7.out) ?_; (try simp only [Act.put, List.getElem_toArray, List.getElem_cons_succ, List.getElem_cons_zero, List.setIfInBounds_toArray, List.set_cons_zero, List.set_cons_succ]))
      (refine q_call (v := .bool false) 23 #[kyV v a, kyV u b] (by rfl) (fun w hC => by go_simp) (fun w hC => calls_in (HL.out _) (fun w' hb => hC.next hb)) ?_; (try simp only [Act.put, List.getElem_toArray, List.getElem_cons_succ, List.getElem_cons_zero, List.setIfInBounds_toArray, List.set_cons_zero, List.set_cons_succ]))
      (refine q_val (v := ?_) (by rfl) ?_ ?_; rotate_left; (· (intro w hC; go_simp; try with_reducible rfl)); (try simp only [Act.put, List.getElem_toArray, List.getElem_cons_succ, List.getElem_cons_zero, List.setIfInBounds_toArray, List.set_cons_zero, List.set_cons_succ]))
      (refine q_val (v := ?_) (by rfl) ?_ ?_; rotate_left; (· (intro w hC; go_simp; try with_reducible rfl)); (try simp only [Act.put, List.getElem_toArray, List.getElem_cons_succ, List.getElem_cons_zero, List.setIfInBounds_toArray, List.set_cons_zero, List.set_cons_succ]))
      (refine q_val (v := kyV u b) (by rfl) (fun w hC => run_loadVar_of 36 _ rfl d rfl 36 (kyA u b) _ hC.kd Try.underlying36 rfl SZ7.out) ?_; (try simp only [Act.put, List.getElem_toArray, List.getElem_cons_succ, List.getElem_cons_zero, List.setIfInBounds_toArray, List.set_cons_zero, List.set_cons_succ]))
      (refine q_val (v := kyV v a) (by rfl) (fun w hC => run_loadVar_of 36 _ rfl c rfl 36 (kyA v a) _ hC.kc Try.underlying36 rfl SZ7.out) ?_; (try simp only [Act.put, List.getElem_toArray, List.getElem_cons_succ, List.getElem_cons_zero, List.setIfInBounds_toArray, List.set_cons_zero, List.set_cons_succ]))
      (refine q_call (v := .bool true) 23 #[kyV u b, kyV v a] (by rfl) (fun w hC => by go_simp) (fun w hC => calls_in (HM.out _) (fun w' hb => hC.next hb)) ?_; (try simp only [Act.put, List.getElem_toArray, List.getElem_cons_succ, List.getElem_cons_zero, List.setIfInBounds_toArray, List.set_cons_zero, List.set_cons_succ]))
      (refine q_val (v := ?_) (by rfl) ?_ ?_; rotate_left; (· (intro w hC; go_simp; try with_reducible rfl)); (try simp only [Act.put, List.getElem_toArray, List.getElem_cons_succ, List.getElem_cons_zero, List.setIfInBounds_toArray, List.set_cons_zero, List.set_cons_succ]))
      (refine q_val (v := ?_) (by rfl) ?_ ?_; rotate_left; (· (intro w hC; go_simp; try with_reducible rfl)); (try simp only [Act.put, List.getElem_toArray, List.getElem_cons_succ, List.getElem_cons_zero, List.setIfInBounds_toArray, List.set_cons_zero, List.set_cons_succ]))
      (refine q_val (v := ?_) (by rfl) ?_ ?_; rotate_left; (· (intro w hC; go_simp; try with_reducible rfl)); (try simp only [Act.put, List.getElem_toArray, List.getElem_cons_succ, List.getElem_cons_zero, List.setIfInBounds_toArray, List.set_cons_zero, List.set_cons_succ]))
      (refine q_val (v := ?_) (by rfl) ?_ ?_; rotate_left; (· (intro w hC; go_simp; try with_reducible rfl)); (try simp only [Act.put, List.getElem_toArray, List.getElem_cons_succ, List.getElem_cons_zero, List.setIfInBounds_toArray, List.set_cons_zero, List.set_cons_succ]))
      (refine q_val (v := ?_) (by rfl) ?_ ?_; rotate_left; (· (intro w hC; go_simp; try with_reducible rfl)); (try simp only [Act.put, List.getElem_toArray, List.getElem_cons_succ, List.getElem_cons_zero, List.setIfInBounds_toArray, List.set_cons_zero, List.set_cons_succ]))
      refine wpQuiet_nil ?_
      intro w5 hC5
      have HB5 := Lib.hid hC5.below
      clear hC5
      go_wp2_with fail
      go_ret
      exact ⟨rfl, by rw [HN.out]; exact HB5.out⟩
    · -- u < v
      have HL := Lib.hid (show ∀ W, Calls Try.prog 23 #[kyV v a, kyV u b] W fun e w' => e = .returned (.bool false) ∧ Below W.heap.size W w' from fun W => by
        have := key_less v a u b HA.out HBB.out W
        rwa [show decide (keyN v a < keyN u b) = false by rw [decide_eq_false_iff_not, keyN_lt HA.out HBB.out]; omega] at this)
      have HM := Lib.hid (show ∀ W, Calls Try.prog 23 #[kyV u b, kyV v a] W fun e w' => e = .returned (.bool true) ∧ Below W.heap.size W w' from fun W => by
        have := key_less u b v a HBB.out HA.out W
        rwa [show decide (keyN u b < keyN v a) = true by rw [decide_eq_true_iff, keyN_lt HBB.out HA.out]; omega] at this)
      have HE := Lib.hid (show ∀ W : World, (Op.equalIn 10000 36 (kyV v a) (kyV u b)).run Try.prog W = .ok false W from fun W => by
        have := ky_eq v u (byteF a) (byteF b) W
        rwa [eqMac_num HA.out (byteF_six b), numF_byteF, Nat.mod_eq_of_lt HBB.out, show (decide (v = u) && decide (a = b)) = false by rw [← Bool.decide_and, decide_eq_false_iff_not]; omega] at this)
      have F1 := Lib.hid (show decide (v < u) = false by simp; omega)
      have F2 := Lib.hid (show ((v : Int) == (u : Int)) = false by simp; omega)
      clear g1 g2 HC
      go_upto_region 4 with fail
      refine wp_region_quiet (C := Kq w n n1 n2 v u a b c d) (by kernel_rfl) (by kernel_rfl) IQ.out.drew ?_
      (refine q_val (v := kyV v a) (by rfl) (fun w hC => run_loadVar_of 36 _ rfl c rfl 36 (kyA v a) _ hC.kc Try.underlying36 rfl SZ7.out) ?_; (try simp only [Act.put, List.getElem_toArray, List.getElem_cons_succ, List.getElem_cons_zero, List.setIfInBounds_toArray, List.set_cons_zero, List.set_cons_succ]))
      (refine q_val (v := kyV u b) (by rfl) (fun w hC => run_loadVar_of 36 _ rfl d rfl 36 (kyA u b) _ hC.kd Try.underlying36 rfl SZ7.out) ?_; (try simp only [Act.put, List.getElem_toArray, List.getElem_cons_succ, List.getElem_cons_zero, List.setIfInBounds_toArray, List.set_cons_zero, List.set_cons_succ]))
      (refine q_call (v := .bool false) 23 #[kyV v a, kyV u b] (by rfl) (fun w hC => by go_simp) (fun w hC => calls_in (HL.out _) (fun w' hb => hC.next hb)) ?_; (try simp only [Act.put, List.getElem_toArray, List.getElem_cons_succ, List.getElem_cons_zero, List.setIfInBounds_toArray, List.set_cons_zero, List.set_cons_succ]))
      (refine q_val (v := ?_) (by rfl) ?_ ?_; rotate_left; (· (intro w hC; go_simp; try with_reducible rfl)); (try simp only [Act.put, List.getElem_toArray, List.getElem_cons_succ, List.getElem_cons_zero, List.setIfInBounds_toArray, List.set_cons_zero, List.set_cons_succ]))
      (refine q_val (v := ?_) (by rfl) ?_ ?_; rotate_left; (· (intro w hC; have q := hC.c0; go_simp; try with_reducible rfl)); (try simp only [Act.put, List.getElem_toArray, List.getElem_cons_succ, List.getElem_cons_zero, List.setIfInBounds_toArray, List.set_cons_zero, List.set_cons_succ]))
      (refine q_val (v := ?_) (by rfl) ?_ ?_; rotate_left; (· (intro w hC; go_simp; try with_reducible rfl)); (try simp only [Act.put, List.getElem_toArray, List.getElem_cons_succ, List.getElem_cons_zero, List.setIfInBounds_toArray, List.set_cons_zero, List.set_cons_succ]))
      (refine q_val (v := ?_) (by rfl) ?_ ?_; rotate_left; (· (intro w hC; have q := hC.c1; go_simp; try with_reducible rfl)); (try simp only [Act.put, List.getElem_toArray, List.getElem_cons_succ, List.getElem_cons_zero, List.setIfInBounds_toArray, List.set_cons_zero, List.set_cons_succ]))
      (refine q_val (v := ?_) (by rfl) ?_ ?_; rotate_left; (· (intro w hC; have q := F1.out; go_simp; try with_reducible rfl)); (try simp only [Act.put, List.getElem_toArray, List.getElem_cons_succ, List.getElem_cons_zero, List.setIfInBounds_toArray, List.set_cons_zero, List.set_cons_succ]))
      (refine q_val (v := ?_) (by rfl) ?_ ?_; rotate_left; (· (intro w hC; go_simp; try with_reducible rfl)); (try simp only [Act.put, List.getElem_toArray, List.getElem_cons_succ, List.getElem_cons_zero, List.setIfInBounds_toArray, List.set_cons_zero, List.set_cons_succ]))
      (refine q_val (v := ?_) (by rfl) ?_ ?_; rotate_left; (· (intro w hC; go_simp; try with_reducible rfl)); (try simp only [Act.put, List.getElem_toArray, List.getElem_cons_succ, List.getElem_cons_zero, List.setIfInBounds_toArray, List.set_cons_zero, List.set_cons_succ]))
      (refine q_val (v := ?_) (by rfl) ?_ ?_; rotate_left; (· (intro w hC; have q := hC.c0; go_simp; try with_reducible rfl)); (try simp only [Act.put, List.getElem_toArray, List.getElem_cons_succ, List.getElem_cons_zero, List.setIfInBounds_toArray, List.set_cons_zero, List.set_cons_succ]))
      (refine q_val (v := ?_) (by rfl) ?_ ?_; rotate_left; (· (intro w hC; go_simp; try with_reducible rfl)); (try simp only [Act.put, List.getElem_toArray, List.getElem_cons_succ, List.getElem_cons_zero, List.setIfInBounds_toArray, List.set_cons_zero, List.set_cons_succ]))
      (refine q_val (v := ?_) (by rfl) ?_ ?_; rotate_left; (· (intro w hC; have q := hC.c1; go_simp; try with_reducible rfl)); (try simp only [Act.put, List.getElem_toArray, List.getElem_cons_succ, List.getElem_cons_zero, List.setIfInBounds_toArray, List.set_cons_zero, List.set_cons_succ]))
      (refine q_val (v := ?_) (by rfl) ?_ ?_; rotate_left; (· (intro w hC; have q := F2.out; go_simp; try with_reducible rfl)); (try simp only [Act.put, List.getElem_toArray, List.getElem_cons_succ, List.getElem_cons_zero, List.setIfInBounds_toArray, List.set_cons_zero, List.set_cons_succ]))
      (refine q_val (v := ?_) (by rfl) ?_ ?_; rotate_left; (· (intro w hC; go_simp; try with_reducible rfl)); (try simp only [Act.put, List.getElem_toArray, List.getElem_cons_succ, List.getElem_cons_zero, List.setIfInBounds_toArray, List.set_cons_zero, List.set_cons_succ]))
      (refine q_skip (by rfl) ?_; (try simp only [Act.put, List.getElem_toArray, List.getElem_cons_succ, List.getElem_cons_zero, List.setIfInBounds_toArray, List.set_cons_zero, List.set_cons_succ]))
      (refine q_skip (by rfl) ?_; (try simp only [Act.put, List.getElem_toArray, List.getElem_cons_succ, List.getElem_cons_zero, List.setIfInBounds_toArray, List.set_cons_zero, List.set_cons_succ]))
      (refine q_skip (by rfl) ?_; (try simp only [Act.put, List.getElem_toArray, List.getElem_cons_succ, List.getElem_cons_zero, List.setIfInBounds_toArray, List.set_cons_zero, List.set_cons_succ]))
      (refine q_skip (by rfl) ?_; (try simp only [Act.put, List.getElem_toArray, List.getElem_cons_succ, List.getElem_cons_zero, List.setIfInBounds_toArray, List.set_cons_zero, List.set_cons_succ]))
      (refine q_skip (by rfl) ?_; (try simp only [Act.put, List.getElem_toArray, List.getElem_cons_succ, List.getElem_cons_zero, List.setIfInBounds_toArray, List.set_cons_zero, List.set_cons_succ]))
      (refine q_val (v := ?_) (by rfl) ?_ ?_; rotate_left; (· (intro w hC; go_simp; try with_reducible rfl)); (try simp only [Act.put, List.getElem_toArray, List.getElem_cons_succ, List.getElem_cons_zero, List.setIfInBounds_toArray, List.set_cons_zero, List.set_cons_succ]))
      (refine q_val (v := ?_) (by rfl) ?_ ?_; rotate_left; (· (intro w hC; go_simp; try with_reducible rfl)); (try simp only [Act.put, List.getElem_toArray, List.getElem_cons_succ, List.getElem_cons_zero, List.setIfInBounds_toArray, List.set_cons_zero, List.set_cons_succ]))
      (refine q_val (v := ?_) (by rfl) ?_ ?_; rotate_left; (· (intro w hC; go_simp; try with_reducible rfl)); (try simp only [Act.put, List.getElem_toArray, List.getElem_cons_succ, List.getElem_cons_zero, List.setIfInBounds_toArray, List.set_cons_zero, List.set_cons_succ]))
      (refine q_val (v := ?_) (by rfl) ?_ ?_; rotate_left; (· (intro w hC; go_simp; try with_reducible rfl)); (try simp only [Act.put, List.getElem_toArray, List.getElem_cons_succ, List.getElem_cons_zero, List.setIfInBounds_toArray, List.set_cons_zero, List.set_cons_succ]))
      (refine q_val (v := kyV v a) (by rfl) (fun w hC => run_loadVar_of 36 _ rfl c rfl 36 (kyA v a) _ hC.kc Try.underlying36 rfl SZ7.out) ?_; (try simp only [Act.put, List.getElem_toArray, List.getElem_cons_succ, List.getElem_cons_zero, List.setIfInBounds_toArray, List.set_cons_zero, List.set_cons_succ]))
      (refine q_val (v := kyV u b) (by rfl) (fun w hC => run_loadVar_of 36 _ rfl d rfl 36 (kyA u b) _ hC.kd Try.underlying36 rfl SZ7.out) ?_; (try simp only [Act.put, List.getElem_toArray, List.getElem_cons_succ, List.getElem_cons_zero, List.setIfInBounds_toArray, List.set_cons_zero, List.set_cons_succ]))
      (refine q_call (v := .bool false) 23 #[kyV v a, kyV u b] (by rfl) (fun w hC => by go_simp) (fun w hC => calls_in (HL.out _) (fun w' hb => hC.next hb)) ?_; (try simp only [Act.put, List.getElem_toArray, List.getElem_cons_succ, List.getElem_cons_zero, List.setIfInBounds_toArray, List.set_cons_zero, List.set_cons_succ]))
      (refine q_val (v := ?_) (by rfl) ?_ ?_; rotate_left; (· (intro w hC; go_simp; try with_reducible rfl)); (try simp only [Act.put, List.getElem_toArray, List.getElem_cons_succ, List.getElem_cons_zero, List.setIfInBounds_toArray, List.set_cons_zero, List.set_cons_succ]))
      (refine q_skip (by rfl) ?_; (try simp only [Act.put, List.getElem_toArray, List.getElem_cons_succ, List.getElem_cons_zero, List.setIfInBounds_toArray, List.set_cons_zero, List.set_cons_succ]))
      (refine q_skip (by rfl) ?_; (try simp only [Act.put, List.getElem_toArray, List.getElem_cons_succ, List.getElem_cons_zero, List.setIfInBounds_toArray, List.set_cons_zero, List.set_cons_succ]))
      (refine q_skip (by rfl) ?_; (try simp only [Act.put, List.getElem_toArray, List.getElem_cons_succ, List.getElem_cons_zero, List.setIfInBounds_toArray, List.set_cons_zero, List.set_cons_succ]))
      (refine q_val (v := ?_) (by rfl) ?_ ?_; rotate_left; (· (intro w hC; go_simp; try with_reducible rfl)); (try simp only [Act.put, List.getElem_toArray, List.getElem_cons_succ, List.getElem_cons_zero, List.setIfInBounds_toArray, List.set_cons_zero, List.set_cons_succ]))
      (refine q_val (v := ?_) (by rfl) ?_ ?_; rotate_left; (· (intro w hC; go_simp; try with_reducible rfl)); (try simp only [Act.put, List.getElem_toArray, List.getElem_cons_succ, List.getElem_cons_zero, List.setIfInBounds_toArray, List.set_cons_zero, List.set_cons_succ]))
      (refine q_val (v := ?_) (by rfl) ?_ ?_; rotate_left; (· (intro w hC; go_simp; try with_reducible rfl)); (try simp only [Act.put, List.getElem_toArray, List.getElem_cons_succ, List.getElem_cons_zero, List.setIfInBounds_toArray, List.set_cons_zero, List.set_cons_succ]))
      (refine q_val (v := ?_) (by rfl) ?_ ?_; rotate_left; (· (intro w hC; go_simp; try with_reducible rfl)); (try simp only [Act.put, List.getElem_toArray, List.getElem_cons_succ, List.getElem_cons_zero, List.setIfInBounds_toArray, List.set_cons_zero, List.set_cons_succ]))
      (refine q_val (v := kyV v a) (by rfl) (fun w hC => run_loadVar_of 36 _ rfl c rfl 36 (kyA v a) _ hC.kc Try.underlying36 rfl SZ7.out) ?_; (try simp only [Act.put, List.getElem_toArray, List.getElem_cons_succ, List.getElem_cons_zero, List.setIfInBounds_toArray, List.set_cons_zero, List.set_cons_succ]))
      (refine q_val (v := kyV u b) (by rfl) (fun w hC => run_loadVar_of 36 _ rfl d rfl 36 (kyA u b) _ hC.kd Try.underlying36 rfl SZ7.out) ?_; (try simp only [Act.put, List.getElem_toArray, List.getElem_cons_succ, List.getElem_cons_zero, List.setIfInBounds_toArray, List.set_cons_zero, List.set_cons_succ]))
      (refine q_val (v := ?_) (by rfl) ?_ ?_; rotate_left; (· (intro w hC; have q := HE.out; go_simp; try with_reducible rfl)); (try simp only [Act.put, List.getElem_toArray, List.getElem_cons_succ, List.getElem_cons_zero, List.setIfInBounds_toArray, List.set_cons_zero, List.set_cons_succ]))
      (refine q_val (v := kyV v a) (by rfl) (fun w hC => run_loadVar_of 36 _ rfl c rfl 36 (kyA v a) _ hC.kc Try.underlying36 rfl SZ7.out) ?_; (try simp only [Act.put, List.getElem_toArray, List.getElem_cons_succ, List.getElem_cons_zero, List.setIfInBounds_toArray, List.set_cons_zero, List.set_cons_succ]))
      (refine q_val (v := kyV u b) (by rfl) (fun w hC => run_loadVar_of 36 _ rfl d rfl 36 (kyA u b) _ hC.kd Try.underlying36 rfl SZ7.out) ?_; (try simp only [Act.put, List.getElem_toArray, List.getElem_cons_succ, List.getElem_cons_zero, List.setIfInBounds_toArray, List.set_cons_zero, List.set_cons_succ]))
      (refine q_call (v := .bool false) 23 #[kyV v a, kyV u b] (by rfl) (fun w hC => by go_simp) (fun w hC => calls_in (HL.out _) (fun w' hb => hC.next hb)) ?_; (try simp only [Act.put, List.getElem_toArray, List.getElem_cons_succ, List.getElem_cons_zero, List.setIfInBounds_toArray, List.set_cons_zero, List.set_cons_succ]))
      (refine q_val (v := ?_) (by rfl) ?_ ?_; rotate_left; (· (intro w hC; go_simp; try with_reducible rfl)); (try simp only [Act.put, List.getElem_toArray, List.getElem_cons_succ, List.getElem_cons_zero, List.setIfInBounds_toArray, List.set_cons_zero, List.set_cons_succ]))
      (refine q_val (v := ?_) (by rfl) ?_ ?_; rotate_left; (· (intro w hC; go_simp; try with_reducible rfl)); (try simp only [Act.put, List.getElem_toArray, List.getElem_cons_succ, List.getElem_cons_zero, List.setIfInBounds_toArray, List.set_cons_zero, List.set_cons_succ]))
      (refine q_val (v := kyV u b) (by rfl) (fun w hC => run_loadVar_of 36 _ rfl d rfl 36 (kyA u b) _ hC.kd Try.underlying36 rfl SZ7.out) ?_; (try simp only [Act.put, List.getElem_toArray, List.getElem_cons_succ, List.getElem_cons_zero, List.setIfInBounds_toArray, List.set_cons_zero, List.set_cons_succ]))
      (refine q_val (v := kyV v a) (by rfl) (fun w hC => run_loadVar_of 36 _ rfl c rfl 36 (kyA v a) _ hC.kc Try.underlying36 rfl SZ7.out) ?_; (try simp only [Act.put, List.getElem_toArray, List.getElem_cons_succ, List.getElem_cons_zero, List.setIfInBounds_toArray, List.set_cons_zero, List.set_cons_succ]))
      (refine q_call (v := .bool true) 23 #[kyV u b, kyV v a] (by rfl) (fun w hC => by go_simp) (fun w hC => calls_in (HM.out _) (fun w' hb => hC.next hb)) ?_; (try simp only [Act.put, List.getElem_toArray, List.getElem_cons_succ, List.getElem_cons_zero, List.setIfInBounds_toArray, List.set_cons_zero, List.set_cons_succ]))
      (refine q_val (v := ?_) (by rfl) ?_ ?_; rotate_left; (· (intro w hC; go_simp; try with_reducible rfl)); (try simp only [Act.put, List.getElem_toArray, List.getElem_cons_succ, List.getElem_cons_zero, List.setIfInBounds_toArray, List.set_cons_zero, List.set_cons_succ]))
      (refine q_val (v := ?_) (by rfl) ?_ ?_; rotate_left; (· (intro w hC; go_simp; try with_reducible rfl)); (try simp only [Act.put, List.getElem_toArray, List.getElem_cons_succ, List.getElem_cons_zero, List.setIfInBounds_toArray, List.set_cons_zero, List.set_cons_succ]))
      (refine q_val (v := ?_) (by rfl) ?_ ?_; rotate_left; (· (intro w hC; go_simp; try with_reducible rfl)); (try simp only [Act.put, List.getElem_toArray, List.getElem_cons_succ, List.getElem_cons_zero, List.setIfInBounds_toArray, List.set_cons_zero, List.set_cons_succ]))
      (refine q_val (v := ?_) (by rfl) ?_ ?_; rotate_left; (· (intro w hC; go_simp; try with_reducible rfl)); (try simp only [Act.put, List.getElem_toArray, List.getElem_cons_succ, List.getElem_cons_zero, List.setIfInBounds_toArray, List.set_cons_zero, List.set_cons_succ]))
      (refine q_val (v := ?_) (by rfl) ?_ ?_; rotate_left; (· (intro w hC; go_simp; try with_reducible rfl)); (try simp only [Act.put, List.getElem_toArray, List.getElem_cons_succ, List.getElem_cons_zero, List.setIfInBounds_toArray, List.set_cons_zero, List.set_cons_succ]))
      refine wpQuiet_nil ?_
      intro w5 hC5
      have HB5 := Lib.hid hC5.below
      clear hC5
      go_wp2_with fail
      go_ret
      exact ⟨rfl, by rw [HN.out]; exact HB5.out⟩

theorem keys_law (p q x0 x1 x2 x3 x4 x5 y0 y1 y2 y3 y4 y5 : Int) (w : World) (hp : (Lit.int .u16 p).wf = true) (hq : (Lit.int .u16 q).wf = true)
    (g0 : (Lit.int .u8 x0).wf = true) (g1 : (Lit.int .u8 x1).wf = true) (g2 : (Lit.int .u8 x2).wf = true) (g3 : (Lit.int .u8 x3).wf = true) (g4 : (Lit.int .u8 x4).wf = true) (g5 : (Lit.int .u8 x5).wf = true)
    (k0 : (Lit.int .u8 y0).wf = true) (k1 : (Lit.int .u8 y1).wf = true) (k2 : (Lit.int .u8 y2).wf = true) (k3 : (Lit.int .u8 y3).wf = true) (k4 : (Lit.int .u8 y4).wf = true) (k5 : (Lit.int .u8 y5).wf = true) :
    Calls Try.prog 4 #[.agg #[.int .u16 p, .int .u16 q], .agg #[.int .u8 x0, .int .u8 x1, .int .u8 x2, .int .u8 x3, .int .u8 x4, .int .u8 x5], .agg #[.int .u8 y0, .int .u8 y1, .int .u8 y2, .int .u8 y3, .int .u8 y4, .int .u8 y5]] w fun e w' => e = .returned (.bool true) ∧ Below w.heap.size w w' := by
  obtain ⟨p, rfl, lp⟩ := nat_of_u16 hp
  obtain ⟨q, rfl, lq⟩ := nat_of_u16 hq
  obtain ⟨x0, rfl, a0⟩ := nat_of_u8 g0
  obtain ⟨x1, rfl, a1⟩ := nat_of_u8 g1
  obtain ⟨x2, rfl, a2⟩ := nat_of_u8 g2
  obtain ⟨x3, rfl, a3⟩ := nat_of_u8 g3
  obtain ⟨x4, rfl, a4⟩ := nat_of_u8 g4
  obtain ⟨x5, rfl, a5⟩ := nat_of_u8 g5
  obtain ⟨y0, rfl, b0⟩ := nat_of_u8 k0
  obtain ⟨y1, rfl, b1⟩ := nat_of_u8 k1
  obtain ⟨y2, rfl, b2⟩ := nat_of_u8 k2
  obtain ⟨y3, rfl, b3⟩ := nat_of_u8 k3
  obtain ⟨y4, rfl, b4⟩ := nat_of_u8 k4
  obtain ⟨y5, rfl, b5⟩ := nat_of_u8 k5
  obtain ⟨a, ha, ea⟩ := byteF_mac (fun i => [x0, x1, x2, x3, x4, x5].getD i 0) ⟨a0, a1, a2, a3, a4, a5⟩
  obtain ⟨b, hb, eb⟩ := byteF_mac (fun i => [y0, y1, y2, y3, y4, y5].getD i 0) ⟨b0, b1, b2, b3, b4, b5⟩
  have := keys_walk p q a b w lp lq ha hb
  rw [← ea, ← eb] at this
  exact this
end Go.Proofs.Ytilklfmcdgggfaa
