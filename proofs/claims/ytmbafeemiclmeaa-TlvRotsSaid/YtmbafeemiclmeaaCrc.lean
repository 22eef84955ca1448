/- What the functions of package crc do, and the document's own answers for them. -/
import Derived.Test.YtmbafeemiclmeaaRows
import Derived.Test.YtmbafeemiclmeaaHas
import Derived.Test.YtmbafeemiclmeaaBks
import Derived.Test.YtmbafeemiclmeaaCrcMath
import Derived.WalkKit
import Derived.WalkSpells
import Derived.WalkLawsBesides
import Derived.IntWalk
import Derived.Lib.Hide
import Derived.Deep.QuietTactic
import Derived.BigQuiet
import Derived.Deep.DeepCutAuto
import Derived.Laws.CopyOwn
namespace Go.Proofs.Ytmbafeemiclmeaa
open Go.RowKit

theorem ret_int' {k : IntKind} {a b : Int} (h : a = b) : Ending.returned (.int k a) = .returned (.int k b) := by rw [h]

theorem stpN_succ (k x : Nat) : Crc.stpN (k + 1) x = Crc.stp (Crc.stpN k x) := Crc.stpN_add k 1 x

set_option maxHeartbeats 400000 in
theorem shift_any (r : Nat) (w : World) (hr : r < 4294967296) :
    Calls Try.prog 26 #[.int .u32 r] w fun e w' => e = .returned (.int .u32 (Crc.tab r : Nat)) ∧ w = w' := by
  go_enter Try.func26, Try.ntmps26
  go_wp2
  go_loop [0, 3, 4] (fun v _ i => ∃ k : Nat, k ≤ 8 ∧ i = .int .i64 k ∧ v = .int .u32 (Crc.stpN k r : Nat)) (fun _ _ i => 8 - (intOf i).toNat)
  case atStart => exact ⟨0, by omega, rfl, rfl⟩
  case round =>
    obtain ⟨k, hk, rfl, rfl⟩ := hrel
    by_cases hlt : k < 8
    · have hs := Lib.hid (stpN_succ k r)
      have hl := Crc.stpN_lt k r hr
      generalize Crc.stpN k r = x at *
      have hb : bits BinOp.and IntKind.u32 (x : Int) 1 = ((x % 2 : Nat) : Int) := by
        rw [show (1 : Int) = ((1 : Nat) : Int) from rfl, u32_and_nat x 1 (by omega) (by omega), nat_mask1]
      by_cases c : x % 2 = 1
      · have hv := Lib.hid (show Value.int .u32 (bits BinOp.xor IntKind.u32 ((x : Int) / 2) 3988292384) = Value.int .u32 ((Crc.stp x : Nat) : Int) by
          rw [show (3988292384 : Int) = ((3988292384 : Nat) : Int) from rfl, show (x : Int) / 2 = ((x / 2 : Nat) : Int) by simp, u32_xor_nat (x / 2) _ (by omega) (by omega)]
          unfold Crc.stp Crc.P
          rw [if_pos c])
        have ht : (bits BinOp.and IntKind.u32 (x : Int) 1 == 1) = true := by rw [hb, c]; rfl
        clear hb c
        go_wp2
        go_round
        case rel => exact ⟨k + 1, by omega, by go_num, by rw [hv.out, hs.out]⟩
        case measure => simp [intOf]; omega
      · have hv := Lib.hid (show Value.int .u32 ((x : Int) / 2) = Value.int .u32 ((Crc.stp x : Nat) : Int) by
          unfold Crc.stp
          rw [if_neg c]
          simp)
        have ht : (bits BinOp.and IntKind.u32 (x : Int) 1 == 1) = false := by rw [hb, show x % 2 = 0 by omega]; rfl
        clear hb c
        go_wp2
        go_round
        case rel => exact ⟨k + 1, by omega, by go_num, by rw [hv.out, hs.out]⟩
        case measure => simp [intOf]; omega
    · have : k = 8 := by omega
      subst this
      go_wp2
      go_ret
      exact ⟨rfl, rfl⟩

def zeros : Array Value := Array.replicate 256 (.int .u32 0)

theorem zero44 (W : World) : (zeroValue 39).run Try.prog W = .ok (.agg zeros) W := by kernel_rfl

/-- The table, filled so far. -/
def tblK (k : Nat) : Array Value := ((List.range 256).map fun i => if i < k then Value.int .u32 (Crc.tab i : Nat) else .int .u32 0).toArray

theorem tblK_size (k : Nat) : (tblK k).size = 256 := by simp [tblK]
theorem tblK_at (k j : Nat) (hj : j < 256) : (tblK k)[j]? = some (if j < k then Value.int .u32 (Crc.tab j : Nat) else .int .u32 0) := by
  simp [tblK, hj]
theorem tblK_zero : zeros = tblK 0 := by
  apply Array.ext
  · simp [zeros, tblK]
  · intro i h1 h2
    simp [zeros, tblK]
theorem tblK_step (k : Nat) : (tblK k).setIfInBounds k (.int .u32 (Crc.tab k : Nat)) = tblK (k + 1) := by
  apply Array.ext
  · simp [tblK]
  · intro i h1 h2
    rw [Array.getElem_setIfInBounds (by simpa using h1)]
    by_cases c : k = i
    · subst c
      simp [tblK]
    · rw [if_neg c]
      simp only [tblK, List.getElem_toArray, List.getElem_map, List.getElem_range]
      by_cases d : i < k
      · rw [if_pos d, if_pos (by omega)]
      · rw [if_neg d, if_neg (by omega)]

theorem tblK_one (k : Nat) : (tblK k).all (·.oneCell') = true := by
  rw [Array.all_eq_true]
  intro i h
  have : i < 256 := by rw [tblK_size] at h; exact h
  have e := tblK_at k i this
  rw [Array.getElem?_eq_getElem h, Option.some.injEq] at e
  rw [e]
  split <;> rfl

set_option maxRecDepth 100000 in
set_option maxHeartbeats 400000 in
theorem make_any (w : World) :
    Calls Try.prog 12 #[] w fun e w' => e = .returned (.agg (tblK 256)) ∧ Below w.heap.size w w' := by
  have hz := zero44
  obtain ⟨W, hW⟩ : ∃ W, W = (w.alloc (Obj.cells zeros 39)).alloc (Obj.cells zeros 39) := ⟨_, rfl⟩
  have HW := Lib.hid hW
  have b0 : Below w.heap.size w W := by rw [hW]; exact ((Below.refl _ _).alloc (Nat.le_refl _) _).alloc (by simp) _
  have r0 : Blk W w.heap.size (tblK 0) 39 := by rw [hW, ← tblK_zero]; exact (Blk.new _ _ _).alloc _
  have r1 : Blk W (w.heap.size + 1) (tblK 0) 39 := by
    rw [hW, ← tblK_zero]
    have := Blk.new (w.alloc (Obj.cells zeros 39)) zeros 39
    rwa [show (w.alloc (Obj.cells zeros 39)).heap.size = w.heap.size + 1 by simp] at this
  clear hW
  go_enter Try.func12, Try.ntmps12
  go_wp2
  rw [← HW.out]
  generalize hBe : w.heap.size = B at *
  have HB := Lib.hid hBe
  clear hBe
  go_loopw [2, 3] (fun _ i wr => ∃ k : Nat, k ≤ 256 ∧ i = .int .i64 k ∧ Below B w wr ∧ Blk wr B (tblK 0) 39 ∧ Blk wr (B + 1) (tblK k) 39) (fun _ i _ => 256 - (intOf i).toNat)
  case atStart => exact ⟨0, by omega, rfl, b0, r0, r1⟩
  case round =>
    obtain ⟨k, hk, rfl, hb, h0, h1⟩ := hrel
    by_cases hlt : k < 256
    · obtain ⟨v0, hc⟩ : ∃ v, wr.cell? ⟨B + 1, k, none⟩ = some v := ⟨_, by rw [h1.cell k, tblK_at k k hlt]⟩
      have hf := h1.free k
      have hs := Lib.hid (h1.set k (.int .u32 (Crc.tab k : Nat)))
      have h0' := Lib.hid h0
      have h1' := Lib.hid h1
      clear h0 h1 r0 r1 b0 hz
      have hstep := Lib.hid (tblK_step k)
      go_wp2_with (go_at_call 26; refine (shift_any k _ (by omega)).mono ?_; rintro e w' ⟨rfl, rfl⟩)
      go_roundw
      case rel =>
        refine ⟨k + 1, by omega, by go_num, hb.setCell (by simp) _, h0'.out.other (by simp) _, ?_⟩
        rw [← hstep.out]
        exact hs.out
      case measure => simp [intOf]; omega
    · have hk' : k = 256 := by omega
      subst hk'
      clear r0 r1 b0 hz
      have hi44 : (Try.prog.info? 39).map (·.size) = some (tblK 256).size := by rw [tblK_size]; kernel_rfl
      have hi44' : (Try.prog.info? 39).map (·.size) = some (tblK 256).size := hi44
      have hone : (tblK 256).all (·.oneCell') = true := tblK_one 256
      have hone' := Lib.hid hone
      have hi' := Lib.hid hi44'
      have h0' := Lib.hid h0
      have h1' := Lib.hid h1
      clear hi44 hi44' hone h0 h1
      go_wp2_with (first
        | (refine wpList_load_row rfl 39 _ rfl (B + 1) rfl 39 _ (0, 0) _ h1'.out Try.underlying39 rfl hi'.out ?_)
        | (refine wpList_store_row rfl 39 _ _ rfl B (tblK 256) rfl rfl 39 (tblK 0) h0'.out hi'.out (by rw [tblK_size, tblK_size]) hone'.out ?_))
      have hrow : (wr.setRow B (tblK 256)).heap[B]? = some (.cells (tblK 256) 39 (0, 0)) := setRow_heap wr B (tblK 0) (tblK 256) 39 (0, 0) h0'.out
      exact bodyPost_ret (v := .agg (tblK 256)) (results_cell_row Try.results12 _ _ B 39 (tblK 256) (0, 0) _ rfl hrow Try.underlying39 rfl hi'.out) rfl ⟨rfl, by rw [HB.out]; exact below_setRow hb (Nat.le_refl _) _⟩

/-- A table in memory. -/
def Tbl (w : World) (g : Nat) : Prop := ∀ i, i < 256 → w.cell? ⟨g, i, none⟩ = some (.int .u32 (Crc.tab i : Nat))

theorem Blk.tbl {w : World} {g : Nat} {t : TypeId} (h : Blk w g (tblK 256) t) : Tbl w g := by
  intro i hi
  rw [h.cell i, tblK_at 256 i hi, if_pos hi]

theorem Tbl.lt {w : World} {g : Nat} (h : Tbl w g) : g < w.heap.size := World.block_lt_of_cell? (h := h 0 (by omega))
theorem Tbl.below {w w' : World} {B g : Nat} (h : Tbl w g) (hb : Below B w w') (hg : g < B) : Tbl w' g := fun i hi => by
  rw [hb.cell (p := ⟨g, i, none⟩) hg, h i hi]
theorem Tbl.drewN {w : World} {g : Nat} (h : Tbl w g) (n : Nat) : Tbl (w.drewN n) g := h.below (below_drewN (Below.refl (g + 1) w) n) (by omega)

theorem sum_nil (s : ByteArray) (w : World) : Calls Try.prog 13 #[.pointer none, .string s] w fun e w' => e = .returned (.int .u32 0) ∧ w = w' := by
  go_enter Try.func13, Try.ntmps13
  go_wp2
  go_ret
  exact ⟨rfl, rfl⟩

theorem sum_step (r : Nat) (l : List UInt8) (k : Nat) (h : k < l.length) : Crc.reg r (l.take (k + 1)) = Crc.regB (Crc.reg r (l.take k)) l[k].toNat := by
  rw [List.take_succ_eq_append_getElem h, Crc.reg_snoc]

set_option maxRecDepth 100000 in
set_option maxHeartbeats 1000000 in
theorem sum_any (g : Nat) (s : ByteArray) (w : World) (h : Tbl w g) (hm : s.size ≤ 9223372036854775807) :
    Calls Try.prog 13 #[.pointer (some ⟨g, 0, none⟩), .string s] w fun e w' => e = .returned (.int .u32 (Crc.sum s.data.toList : Nat)) ∧ ∃ n, w' = w.drewN n := by
  go_enter Try.func13, Try.ntmps13
  go_wp2
  go_loopw [5, 6, 11] (fun v _ i wr => ∃ k : Nat, k ≤ s.size ∧ i = .int .i64 k ∧ v = .int .u32 (Crc.reg 4294967295 (s.data.toList.take k) : Nat) ∧ ∃ n, wr = w.drewN n) (fun _ _ i _ => s.size - (intOf i).toNat)
  case atStart => exact ⟨0, by omega, rfl, rfl, 0, rfl⟩
  case round =>
    obtain ⟨k, hk, rfl, rfl, n, rfl⟩ := hrel
    by_cases hlt : k < s.size
    · have hs := Lib.hid (sum_step 4294967295 s.data.toList k (by rw [Array.length_toList]; exact hlt))
      have hl := Crc.reg_lt 4294967295 (s.data.toList.take k) (by omega)
      generalize Crc.reg 4294967295 (s.data.toList.take k) = r at *
      have hk0 : (0 : Int) ≤ (k : Int) := by omega
      have hk1 : (k : Int) < (s.size : Int) := by omega
      obtain ⟨c, hcc⟩ : ∃ c, c = s[k].toNat := ⟨_, rfl⟩
      have hc256 : c < 256 := by rw [hcc]; exact s[k].toNat_lt
      have hcs : s.data.toList[k].toNat = c := by rw [hcc]; rfl
      have hi256 : (r % 256) ^^^ c < 2 ^ 8 := Nat.xor_lt_two_pow (by omega) (by omega)
      have hx : bits BinOp.xor IntKind.u8 ((r : Int) % 256) (s[k].toNat : Int) = (((r % 256) ^^^ c : Nat) : Int) := by
        rw [← hcc, show (r : Int) % 256 = ((r % 256 : Nat) : Int) by omega, u8_xor_nat _ _ (by omega) hc256]
      have hv := Lib.hid (show Value.int .u32 (bits BinOp.xor IntKind.u32 ((r : Int) / 256) ((Crc.tab ((r % 256) ^^^ c) : Nat) : Int)) = Value.int .u32 ((Crc.regB r c : Nat) : Int) by
        rw [show (r : Int) / 256 = ((r / 256 : Nat) : Int) by omega, u32_xor_nat _ _ (by omega) (Crc.tab_lt _ (by omega))]
        rfl)
      have hcell := h ((r % 256) ^^^ c) hi256
      rw [hcs] at hs
      generalize (r % 256) ^^^ c = i at *
      have hi0 : (0 : Int) ≤ (i : Int) := by omega
      have hi1 : (i : Int) < 256 := by omega
      have hcs' := Lib.hid hcs
      clear hcs hcc
      go_upto_region 7 with (fail)
      go_quiet (fail)
      go_wp2
      go_roundw
      case rel => exact ⟨k + 1, by omega, by go_num, by rw [hv.out, hs.out], n + nq, rfl⟩
      case measure => simp [intOf]; omega
    · have hk' : s.data.toList.take k = s.data.toList := List.take_of_length_le (by rw [Array.length_toList]; show s.size ≤ k; omega)
      rw [hk']
      have hl := Crc.reg_lt 4294967295 s.data.toList (by omega)
      have hv := Lib.hid (show Value.int .u32 (bits BinOp.xor IntKind.u32 ((Crc.reg 4294967295 s.data.toList : Nat) : Int) 4294967295) = Value.int .u32 ((Crc.sum s.data.toList : Nat) : Int) by
        rw [show (4294967295 : Int) = ((4294967295 : Nat) : Int) from rfl, u32_xor_nat _ _ hl (by omega)]
        rfl)
      generalize Crc.reg 4294967295 s.data.toList = r at *
      clear hk'
      go_wp2
      go_ret
      exact ⟨congrArg Ending.returned hv.out, n, rfl⟩
end Go.Proofs.Ytmbafeemiclmeaa
