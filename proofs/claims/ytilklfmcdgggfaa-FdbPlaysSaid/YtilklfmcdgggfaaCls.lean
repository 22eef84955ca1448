/- The developers' closures by which lists are sorted. -/
import Derived.Test.YtilklfmcdgggfaaKless
import Derived.Test.YtilklfmcdgggfaaS10
import Derived.Test.YtilklfmcdgggfaaF9
import Derived.Shelf.GgSortFunc.RowK
import Derived.Sort.LotA
import Derived.Sort.Statements
namespace Go.Proofs.Ytilklfmcdgggfaa
open Go.RowKit
attribute [local irreducible] wpQuiet
set_option linter.unusedSimpArgs false
set_option linter.unusedVariables false

theorem byteF_mod (a k : Nat) (hk : k < 6) : byteF (a % 281474976710656) k = byteF a k := by
  obtain ⟨b0, b1, b2, b3, b4, b5⟩ := byteF_lit a
  obtain ⟨c0, c1, c2, c3, c4, c5⟩ := byteF_lit (a % 281474976710656)
  match k, hk with
  | 0, _ => rw [b0, c0]; omega
  | 1, _ => rw [b1, c1]; omega
  | 2, _ => rw [b2, c2]; omega
  | 3, _ => rw [b3, c3]; omega
  | 4, _ => rw [b4, c4]; omega
  | 5, _ => rw [b5, c5]; omega
theorem kyV_mod (v a : Nat) : kyV v (a % 281474976710656) = kyV v a := by
  unfold kyV kyA
  rw [byteF_mod a 0 (by omega), byteF_mod a 1 (by omega), byteF_mod a 2 (by omega), byteF_mod a 3 (by omega), byteF_mod a 4 (by omega), byteF_mod a 5 (by omega)]
theorem key_less2 (v a u b : Nat) (w : World) :
    Calls Try.prog 23 #[kyV v a, kyV u b] w fun e w' => e = .returned (.bool (decide (keyN v (a % 281474976710656) < keyN u (b % 281474976710656)))) ∧ Below w.heap.size w w' := by
  have := key_less v (a % 281474976710656) u (b % 281474976710656) (by omega) (by omega) w
  rwa [kyV_mod, kyV_mod] at this

/-- How two entries stand, whatever they are. -/
def ltS (x y : Se) : Bool := decide (keyN x.vid (x.mac % 281474976710656) < keyN y.vid (y.mac % 281474976710656))
theorem ltS_swo : Sort.SWO ltS where
  irrefl x := by simp [ltS]
  trans x y z h1 h2 := by simp [ltS] at *; omega
  ntrans x y z h1 h2 := by simp [ltS] at *; omega
instance : Inhabited Se := ⟨⟨0, 0, 0⟩⟩
theorem ltS_row {W : World} {blk n : Nat} {dk : Array Se} (h : Sort.HoldsK seC 8 W blk 0 dk) (hn : dk.size = n) (i : Nat) (hi : i < n) {w' : World} (hb : W.heap.size ≤ w'.heap.size ∧ w'.heap[blk]? = W.heap[blk]?) :
    w'.rangeAt blk (i * 8) (kyA (dk[i]!).vid (dk[i]!).mac).toList := by
  intro j u hu
  have hj : j < 7 := by
    have := (List.getElem?_eq_some_iff.1 hu).1
    simpa using this
  have q := (h.cell (i := i) (c := j) (by omega) (by omega)).1
  have e : w'.cell? ⟨blk, i * 8 + j, none⟩ = W.cell? ⟨blk, 0 + i * 8 + j, none⟩ := by
    rw [Nat.zero_add]
    simp only [World.cell?, hb.2]
  rw [e, q]
  have hl : j < (seC dk[i]!).length := by rw [show (seC dk[i]!).length = 8 from rfl]; omega
  rw [getElem!_pos (seC dk[i]!) j hl]
  generalize dk[i]! = x at hu hl ⊢
  match j, hj with
  | 0, _ => simpa [seC] using hu
  | 1, _ => simpa [seC] using hu
  | 2, _ => simpa [seC] using hu
  | 3, _ => simpa [seC] using hu
  | 4, _ => simpa [seC] using hu
  | 5, _ => simpa [seC] using hu
  | 6, _ => simpa [seC] using hu

set_option maxRecDepth 100000 in
set_option maxHeartbeats 8000000 in
theorem less53 {W : World} {blk n c Bs : Nat} {dk : Array Se} (h : Sort.HoldsK seC 8 W blk 0 dk) (hn : dk.size = n) (hbl : blk < W.heap.size) (hBs : W.cell? ⟨Bs, 0, none⟩ = some (.slice (some ⟨blk, 0, none⟩) n c)) (hB : Bs < W.heap.size) (i j : Nat) (hi : i < n) (hj : j < n) (hn2 : n ≤ 1000) :
    Calls Try.prog 53 #[.int .i64 i, .int .i64 j, .pointer (some ⟨Bs, 0, none⟩)] W fun e w' => e = .returned (.bool (ltS dk[i]! dk[j]!)) ∧ Below W.heap.size W w' := by
  have HS := Lib.hid (show ∀ w', Below W.heap.size W w' → w'.cell? ⟨Bs, 0, none⟩ = some (.slice (some ⟨blk, 0, none⟩) n c) from fun w' hb => (hb.cell (p := ⟨Bs, 0, none⟩) hB).trans hBs)
  have HI := Lib.hid (show ∀ w', Below W.heap.size W w' → w'.rangeAt blk (i * 8) (kyA (dk[i]!).vid (dk[i]!).mac).toList from fun w' hb => ltS_row h hn i hi ⟨hb.size, hb.block blk hbl⟩)
  have HJ := Lib.hid (show ∀ w', Below W.heap.size W w' → w'.rangeAt blk (j * 8) (kyA (dk[j]!).vid (dk[j]!).mac).toList from fun w' hb => ltS_row h hn j hj ⟨hb.size, hb.block blk hbl⟩)
  have H1 := Lib.hid (show (i : Int) < (n : Int) by omega)
  have H2 := Lib.hid (show (j : Int) < (n : Int) by omega)
  have SZ := Lib.hid (show (Try.prog.info? 36).map (·.size) = some 7 by kernel_rfl)
  clear h hn hbl hBs hB
  go_enter Try.func53, Try.ntmps53
  go_upto_region 1 with fail
  refine wp_region_quiet (C := Below W.heap.size W) (by kernel_rfl) (by kernel_rfl) (Below.refl _ _).drew ?_
  (refine q_val (v := ?_) (by rfl) ?_ ?_; rotate_left; (· (intro w hC; have q := HS.out w hC; go_simp; try with_reducible rfl)); (try simp only [Act.put, List.getElem_toArray, List.getElem_cons_succ, List.getElem_cons_zero, List.setIfInBounds_toArray, List.set_cons_zero, List.set_cons_succ]))
  (refine q_val (v := ?_) (by rfl) ?_ ?_; rotate_left; (· (intro w hC; go_simp; try with_reducible rfl)); (try simp only [Act.put, List.getElem_toArray, List.getElem_cons_succ, List.getElem_cons_zero, List.setIfInBounds_toArray, List.set_cons_zero, List.set_cons_succ]))
  (refine q_val (v := ?_) (by rfl) ?_ ?_; rotate_left; (· (intro w hC; have q1 := H1.out; go_simp; try with_reducible rfl)); (try simp only [Act.put, List.getElem_toArray, List.getElem_cons_succ, List.getElem_cons_zero, List.setIfInBounds_toArray, List.set_cons_zero, List.set_cons_succ]))
  (refine q_val (v := ?_) (by rfl) ?_ ?_; rotate_left; (· (intro w hC; go_simp; try with_reducible rfl)); (try simp only [Act.put, List.getElem_toArray, List.getElem_cons_succ, List.getElem_cons_zero, List.setIfInBounds_toArray, List.set_cons_zero, List.set_cons_succ]))
  (refine q_val (v := kyV (dk[i]!).vid (dk[i]!).mac) (by rfl) (fun w hC => run_loadRange 36 _ rfl blk (i * 8) rfl (kyA (dk[i]!).vid (dk[i]!).mac) _ (HI.out w hC) Try.underlying36 rfl SZ.out) ?_; (try simp only [Act.put, List.getElem_toArray, List.getElem_cons_succ, List.getElem_cons_zero, List.setIfInBounds_toArray, List.set_cons_zero, List.set_cons_succ]))
  (refine q_val (v := ?_) (by rfl) ?_ ?_; rotate_left; (· (intro w hC; have q := HS.out w hC; go_simp; try with_reducible rfl)); (try simp only [Act.put, List.getElem_toArray, List.getElem_cons_succ, List.getElem_cons_zero, List.setIfInBounds_toArray, List.set_cons_zero, List.set_cons_succ]))
  (refine q_val (v := ?_) (by rfl) ?_ ?_; rotate_left; (· (intro w hC; go_simp; try with_reducible rfl)); (try simp only [Act.put, List.getElem_toArray, List.getElem_cons_succ, List.getElem_cons_zero, List.setIfInBounds_toArray, List.set_cons_zero, List.set_cons_succ]))
  (refine q_val (v := ?_) (by rfl) ?_ ?_; rotate_left; (· (intro w hC; have q1 := H2.out; go_simp; try with_reducible rfl)); (try simp only [Act.put, List.getElem_toArray, List.getElem_cons_succ, List.getElem_cons_zero, List.setIfInBounds_toArray, List.set_cons_zero, List.set_cons_succ]))
  (refine q_val (v := ?_) (by rfl) ?_ ?_; rotate_left; (· (intro w hC; go_simp; try with_reducible rfl)); (try simp only [Act.put, List.getElem_toArray, List.getElem_cons_succ, List.getElem_cons_zero, List.setIfInBounds_toArray, List.set_cons_zero, List.set_cons_succ]))
  (refine q_val (v := kyV (dk[j]!).vid (dk[j]!).mac) (by rfl) (fun w hC => run_loadRange 36 _ rfl blk (j * 8) rfl (kyA (dk[j]!).vid (dk[j]!).mac) _ (HJ.out w hC) Try.underlying36 rfl SZ.out) ?_; (try simp only [Act.put, List.getElem_toArray, List.getElem_cons_succ, List.getElem_cons_zero, List.setIfInBounds_toArray, List.set_cons_zero, List.set_cons_succ]))
  (refine q_call (v := .bool (ltS dk[i]! dk[j]!)) 23 #[kyV (dk[i]!).vid (dk[i]!).mac, kyV (dk[j]!).vid (dk[j]!).mac] (by rfl) (fun w hC => by go_simp) (fun w hC => calls_in (key_less2 _ _ _ _ w) (fun w' hb => hC.trans (hb.mono hC.size))) ?_; (try simp only [Act.put, List.getElem_toArray, List.getElem_cons_succ, List.getElem_cons_zero, List.setIfInBounds_toArray, List.set_cons_zero, List.set_cons_succ]))
  (refine q_val (v := ?_) (by rfl) ?_ ?_; rotate_left; (· (intro w hC; go_simp; try with_reducible rfl)); (try simp only [Act.put, List.getElem_toArray, List.getElem_cons_succ, List.getElem_cons_zero, List.setIfInBounds_toArray, List.set_cons_zero, List.set_cons_succ]))
  refine wpQuiet_nil ?_
  intro w5 hC5
  have K5 := Lib.hid hC5
  clear hC5
  go_wp2_with fail
  go_ret
  exact ⟨rfl, K5.out⟩

/-- How two entries stand, whatever they are. -/
def ltE (x y : En) : Bool := decide (keyN x.vid (x.mac % 281474976710656) < keyN y.vid (y.mac % 281474976710656))
theorem ltE_swo : Sort.SWO ltE where
  irrefl x := by simp [ltE]
  trans x y z h1 h2 := by simp [ltE] at *; omega
  ntrans x y z h1 h2 := by simp [ltE] at *; omega
instance : Inhabited En := ⟨⟨0, 0, 0, 0⟩⟩
theorem ltE_row {W : World} {blk n : Nat} {dk : Array En} (h : Sort.HoldsK enC 9 W blk 0 dk) (hn : dk.size = n) (i : Nat) (hi : i < n) {w' : World} (hb : W.heap.size ≤ w'.heap.size ∧ w'.heap[blk]? = W.heap[blk]?) :
    w'.rangeAt blk (i * 9) (kyA (dk[i]!).vid (dk[i]!).mac).toList := by
  intro j u hu
  have hj : j < 7 := by
    have := (List.getElem?_eq_some_iff.1 hu).1
    simpa using this
  have q := (h.cell (i := i) (c := j) (by omega) (by omega)).1
  have e : w'.cell? ⟨blk, i * 9 + j, none⟩ = W.cell? ⟨blk, 0 + i * 9 + j, none⟩ := by
    rw [Nat.zero_add]
    simp only [World.cell?, hb.2]
  rw [e, q]
  have hl : j < (enC dk[i]!).length := by rw [show (enC dk[i]!).length = 9 from rfl]; omega
  rw [getElem!_pos (enC dk[i]!) j hl]
  generalize dk[i]! = x at hu hl ⊢
  match j, hj with
  | 0, _ => simpa [enC] using hu
  | 1, _ => simpa [enC] using hu
  | 2, _ => simpa [enC] using hu
  | 3, _ => simpa [enC] using hu
  | 4, _ => simpa [enC] using hu
  | 5, _ => simpa [enC] using hu
  | 6, _ => simpa [enC] using hu

set_option maxRecDepth 100000 in
set_option maxHeartbeats 8000000 in
theorem less48 {W : World} {blk n c Bs : Nat} {dk : Array En} (h : Sort.HoldsK enC 9 W blk 0 dk) (hn : dk.size = n) (hbl : blk < W.heap.size) (hBs : W.cell? ⟨Bs, 0, none⟩ = some (.slice (some ⟨blk, 0, none⟩) n c)) (hB : Bs < W.heap.size) (i j : Nat) (hi : i < n) (hj : j < n) (hn2 : n ≤ 1000) :
    Calls Try.prog 48 #[.int .i64 i, .int .i64 j, .pointer (some ⟨Bs, 0, none⟩)] W fun e w' => e = .returned (.bool (ltE dk[i]! dk[j]!)) ∧ Below W.heap.size W w' := by
  have HS := Lib.hid (show ∀ w', Below W.heap.size W w' → w'.cell? ⟨Bs, 0, none⟩ = some (.slice (some ⟨blk, 0, none⟩) n c) from fun w' hb => (hb.cell (p := ⟨Bs, 0, none⟩) hB).trans hBs)
  have HI := Lib.hid (show ∀ w', Below W.heap.size W w' → w'.rangeAt blk (i * 9) (kyA (dk[i]!).vid (dk[i]!).mac).toList from fun w' hb => ltE_row h hn i hi ⟨hb.size, hb.block blk hbl⟩)
  have HJ := Lib.hid (show ∀ w', Below W.heap.size W w' → w'.rangeAt blk (j * 9) (kyA (dk[j]!).vid (dk[j]!).mac).toList from fun w' hb => ltE_row h hn j hj ⟨hb.size, hb.block blk hbl⟩)
  have H1 := Lib.hid (show (i : Int) < (n : Int) by omega)
  have H2 := Lib.hid (show (j : Int) < (n : Int) by omega)
  have SZ := Lib.hid (show (Try.prog.info? 36).map (·.size) = some 7 by kernel_rfl)
  clear h hn hbl hBs hB
  go_enter Try.func48, Try.ntmps48
  go_upto_region 1 with fail
  refine wp_region_quiet (C := Below W.heap.size W) (by kernel_rfl) (by kernel_rfl) (Below.refl _ _).drew ?_
  (refine q_val (v := ?_) (by rfl) ?_ ?_; rotate_left; (· (intro w hC; have q := HS.out w hC; go_simp; try with_reducible rfl)); (try simp only [Act.put, List.getElem_toArray, List.getElem_cons_succ, List.getElem_cons_zero, List.setIfInBounds_toArray, List.set_cons_zero, List.set_cons_succ]))
  (refine q_val (v := ?_) (by rfl) ?_ ?_; rotate_left; (· (intro w hC; go_simp; try with_reducible rfl)); (try simp only [Act.put, List.getElem_toArray, List.getElem_cons_succ, List.getElem_cons_zero, List.setIfInBounds_toArray, List.set_cons_zero, List.set_cons_succ]))
  (refine q_val (v := ?_) (by rfl) ?_ ?_; rotate_left; (· (intro w hC; have q1 := H1.out; go_simp; try with_reducible rfl)); (try simp only [Act.put, List.getElem_toArray, List.getElem_cons_succ, List.getElem_cons_zero, List.setIfInBounds_toArray, List.set_cons_zero, List.set_cons_succ]))
  (refine q_val (v := ?_) (by rfl) ?_ ?_; rotate_left; (· (intro w hC; go_simp; try with_reducible rfl)); (try simp only [Act.put, List.getElem_toArray, List.getElem_cons_succ, List.getElem_cons_zero, List.setIfInBounds_toArray, List.set_cons_zero, List.set_cons_succ]))
  (refine q_val (v := kyV (dk[i]!).vid (dk[i]!).mac) (by rfl) (fun w hC => run_loadRange 36 _ rfl blk (i * 9) rfl (kyA (dk[i]!).vid (dk[i]!).mac) _ (HI.out w hC) Try.underlying36 rfl SZ.out) ?_; (try simp only [Act.put, List.getElem_toArray, List.getElem_cons_succ, List.getElem_cons_zero, List.setIfInBounds_toArray, List.set_cons_zero, List.set_cons_succ]))
  (refine q_val (v := ?_) (by rfl) ?_ ?_; rotate_left; (· (intro w hC; have q := HS.out w hC; go_simp; try with_reducible rfl)); (try simp only [Act.put, List.getElem_toArray, List.getElem_cons_succ, List.getElem_cons_zero, List.setIfInBounds_toArray, List.set_cons_zero, List.set_cons_succ]))
  (refine q_val (v := ?_) (by rfl) ?_ ?_; rotate_left; (· (intro w hC; go_simp; try with_reducible rfl)); (try simp only [Act.put, List.getElem_toArray, List.getElem_cons_succ, List.getElem_cons_zero, List.setIfInBounds_toArray, List.set_cons_zero, List.set_cons_succ]))
  (refine q_val (v := ?_) (by rfl) ?_ ?_; rotate_left; (· (intro w hC; have q1 := H2.out; go_simp; try with_reducible rfl)); (try simp only [Act.put, List.getElem_toArray, List.getElem_cons_succ, List.getElem_cons_zero, List.setIfInBounds_toArray, List.set_cons_zero, List.set_cons_succ]))
  (refine q_val (v := ?_) (by rfl) ?_ ?_; rotate_left; (· (intro w hC; go_simp; try with_reducible rfl)); (try simp only [Act.put, List.getElem_toArray, List.getElem_cons_succ, List.getElem_cons_zero, List.setIfInBounds_toArray, List.set_cons_zero, List.set_cons_succ]))
  (refine q_val (v := kyV (dk[j]!).vid (dk[j]!).mac) (by rfl) (fun w hC => run_loadRange 36 _ rfl blk (j * 9) rfl (kyA (dk[j]!).vid (dk[j]!).mac) _ (HJ.out w hC) Try.underlying36 rfl SZ.out) ?_; (try simp only [Act.put, List.getElem_toArray, List.getElem_cons_succ, List.getElem_cons_zero, List.setIfInBounds_toArray, List.set_cons_zero, List.set_cons_succ]))
  (refine q_call (v := .bool (ltE dk[i]! dk[j]!)) 23 #[kyV (dk[i]!).vid (dk[i]!).mac, kyV (dk[j]!).vid (dk[j]!).mac] (by rfl) (fun w hC => by go_simp) (fun w hC => calls_in (key_less2 _ _ _ _ w) (fun w' hb => hC.trans (hb.mono hC.size))) ?_; (try simp only [Act.put, List.getElem_toArray, List.getElem_cons_succ, List.getElem_cons_zero, List.setIfInBounds_toArray, List.set_cons_zero, List.set_cons_succ]))
  (refine q_val (v := ?_) (by rfl) ?_ ?_; rotate_left; (· (intro w hC; go_simp; try with_reducible rfl)); (try simp only [Act.put, List.getElem_toArray, List.getElem_cons_succ, List.getElem_cons_zero, List.setIfInBounds_toArray, List.set_cons_zero, List.set_cons_succ]))
  refine wpQuiet_nil ?_
  intro w5 hC5
  have K5 := Lib.hid hC5
  clear hC5
  go_wp2_with fail
  go_ret
  exact ⟨rfl, K5.out⟩
end Go.Proofs.Ytilklfmcdgggfaa
