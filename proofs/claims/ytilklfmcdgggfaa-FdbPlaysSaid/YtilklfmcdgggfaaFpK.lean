/- StaticPlays' acts that came in, as a list. Layer 9's acts that came in, as a list. The developers' table of layer 9: the closures that say which entries go. The developers' table of layer 9: what goes by a closure. The developers' table of layer 9: Flush, Drop. While one goes through a map, a key that isn't still to come gets another value. The developers' table of layer 9: Tick. The developers' table of layer 9: none. The first line of layer 9's statements. What is learnt is found; how many there are; what a tick leaves. FdbKept's walk. -/
import Derived.Test.YtilklfmcdgggfaaStrs
import Derived.Test.YtilklfmcdgggfaaOpenS
import Derived.Test.YtilklfmcdgggfaaLits
import Derived.Test.YtilklfmcdgggfaaMac
import Derived.Test.YtilklfmcdgggfaaFb5
import Derived.Test.YtilklfmcdgggfaaTbl
import Derived.Test.YtilklfmcdgggfaaFb4
import Derived.Test.YtilklfmcdgggfaaLsF
import Derived.Test.YtilklfmcdgggfaaAddr
import Derived.Test.YtilklfmcdgggfaaSrcRows
section
namespace Go.Proofs.Ytilklfmcdgggfaa
open Go.RowKit Go.Deep

/-- Six bytes are those of a number. -/
theorem six_num (b0 b1 b2 b3 b4 b5 : Nat) (h0 : b0 < 256) (h1 : b1 < 256) (h2 : b2 < 256) (h3 : b3 < 256) (h4 : b4 < 256) (h5 : b5 < 256) :
    ∃ a, a < 281474976710656 ∧ byteF a 0 = b0 ∧ byteF a 1 = b1 ∧ byteF a 2 = b2 ∧ byteF a 3 = b3 ∧ byteF a 4 = b4 ∧ byteF a 5 = b5 := by
  let m : Nat → Nat := fun j => match j with | 0 => b0 | 1 => b1 | 2 => b2 | 3 => b3 | 4 => b4 | _ => b5
  have hs : Six m := ⟨h0, h1, h2, h3, h4, h5⟩
  have hn := numF_lt hs
  have e := byteF_numF hs
  generalize numF m 6 = n at *
  refine ⟨n, hn, ?_⟩
  unfold mac at e
  simp only [Value.agg.injEq, Array.mk.injEq, List.cons.injEq, Value.int.injEq, Int.natCast_inj, true_and, and_true] at e
  exact e

/-- An act: what, an entry. -/
structure Ac10 where
  what : Nat
  vid : Nat
  mac : Nat
  prt : Nat
abbrev acA10 (x : Ac10) : Array Value := #[.int .u8 (x.what : Nat), .int .u16 (x.vid : Nat), .int .u8 (byteF x.mac 0 : Nat), .int .u8 (byteF x.mac 1 : Nat), .int .u8 (byteF x.mac 2 : Nat), .int .u8 (byteF x.mac 3 : Nat), .int .u8 (byteF x.mac 4 : Nat), .int .u8 (byteF x.mac 5 : Nat), .int .u32 (x.prt : Nat)]
def acC10 (x : Ac10) : List Value := (acA10 x).toList
def acOk10 (x : Ac10) : Prop := x.what < 256 ∧ x.vid < 65536 ∧ x.mac < 281474976710656 ∧ x.prt < 4294967296

def IsArg73 (w : World) (a : Option Addr) (len cap : Nat) (l : List Ac10) : Prop :=
  l.length = len ∧ RowsAt w a 9 acC10 l ∧ (∀ x ∈ l, acOk10 x) ∧ (len ≤ cap ∧ cap ≤ maxLen) ∧ (a = none → len = 0 ∧ cap = 0)

theorem open_row73 {H : Type} {enc : TypeId × Value → H} {w : World} {base : Nat} {spare : Nat → Bool} {held : Bool} {a : Option Addr} {len cap : Nat} {d : DataW H} {p : List MemPlace}
    (h : DataW.Trod enc Try.prog w base spare held 67 (.slice a len cap) d p) : ∃ l, IsArg73 w a len cap l := by
  refine open_rows acC10 acOk10 Try.underlying67 cellsS73 (by decide) (fun _ => rfl) ?_ h
  intro fuel cs y hcs hf
  obtain ⟨x0, x1, m0, m1, m2, m3, m4, m5, x3, hv, w0, w1, q0, q1, q2, q3, q4, q5, w3⟩ := cells_s73 (cs := ⟨cs⟩) hcs hf
  have hv' : cs = [.int .u8 x0, .int .u16 x1, .int .u8 m0, .int .u8 m1, .int .u8 m2, .int .u8 m3, .int .u8 m4, .int .u8 m5, .int .u32 x3] := by simpa using congrArg Array.toList hv
  obtain ⟨x0, rfl, l0⟩ := nat_of_u8 w0
  obtain ⟨x1, rfl, l1⟩ := nat_of_u16 w1
  obtain ⟨m0, rfl, k0⟩ := nat_of_u8 q0
  obtain ⟨m1, rfl, k1⟩ := nat_of_u8 q1
  obtain ⟨m2, rfl, k2⟩ := nat_of_u8 q2
  obtain ⟨m3, rfl, k3⟩ := nat_of_u8 q3
  obtain ⟨m4, rfl, k4⟩ := nat_of_u8 q4
  obtain ⟨m5, rfl, k5⟩ := nat_of_u8 q5
  obtain ⟨x3, rfl, l3⟩ := nat_of_u32 w3
  obtain ⟨n, hn, b0, b1, b2, b3, b4, b5⟩ := six_num m0 m1 m2 m3 m4 m5 k0 k1 k2 k3 k4 k5
  refine ⟨⟨x0, x1, n, x3⟩, ?_, l0, l1, hn, l3⟩
  rw [hv']
  show _ = [_, _, _, _, _, _, _, _, _]
  simp only [b0, b1, b2, b3, b4, b5]
end Go.Proofs.Ytilklfmcdgggfaa
end
section
namespace Go.Proofs.Ytilklfmcdgggfaa
open Go.RowKit Go.Deep

/-- An act: what, an entry. -/
structure Ac9 where
  what : Nat
  vid : Nat
  mac : Nat
  port : Int
  age : Int
abbrev acA9 (x : Ac9) : Array Value := #[.int .u8 (x.what : Nat), .int .u16 (x.vid : Nat), .int .u8 (byteF x.mac 0 : Nat), .int .u8 (byteF x.mac 1 : Nat), .int .u8 (byteF x.mac 2 : Nat), .int .u8 (byteF x.mac 3 : Nat), .int .u8 (byteF x.mac 4 : Nat), .int .u8 (byteF x.mac 5 : Nat), .int .i64 x.port, .int .i64 x.age]
def acC9 (x : Ac9) : List Value := (acA9 x).toList
def acOk9 (x : Ac9) : Prop := x.what < 256 ∧ x.vid < 65536 ∧ x.mac < 281474976710656 ∧ (Lit.int .i64 x.port).wf = true ∧ (Lit.int .i64 x.age).wf = true

def IsArg33 (w : World) (a : Option Addr) (len cap : Nat) (l : List Ac9) : Prop :=
  l.length = len ∧ RowsAt w a 10 acC9 l ∧ (∀ x ∈ l, acOk9 x) ∧ (len ≤ cap ∧ cap ≤ maxLen) ∧ (a = none → len = 0 ∧ cap = 0)

theorem open_row33 {H : Type} {enc : TypeId × Value → H} {w : World} {base : Nat} {spare : Nat → Bool} {held : Bool} {a : Option Addr} {len cap : Nat} {d : DataW H} {p : List MemPlace}
    (h : DataW.Trod enc Try.prog w base spare held 22 (.slice a len cap) d p) : ∃ l, IsArg33 w a len cap l := by
  refine open_rows acC9 acOk9 Try.underlying22 cellsS33 (by decide) (fun _ => rfl) ?_ h
  intro fuel cs y hcs hf
  obtain ⟨x0, x1, m0, m1, m2, m3, m4, m5, x3, x4, hv, w0, w1, q0, q1, q2, q3, q4, q5, w3, w4⟩ := cells_s33 (cs := ⟨cs⟩) hcs hf
  have hv' : cs = [.int .u8 x0, .int .u16 x1, .int .u8 m0, .int .u8 m1, .int .u8 m2, .int .u8 m3, .int .u8 m4, .int .u8 m5, .int .i64 x3, .int .i64 x4] := by simpa using congrArg Array.toList hv
  obtain ⟨x0, rfl, l0⟩ := nat_of_u8 w0
  obtain ⟨x1, rfl, l1⟩ := nat_of_u16 w1
  obtain ⟨m0, rfl, k0⟩ := nat_of_u8 q0
  obtain ⟨m1, rfl, k1⟩ := nat_of_u8 q1
  obtain ⟨m2, rfl, k2⟩ := nat_of_u8 q2
  obtain ⟨m3, rfl, k3⟩ := nat_of_u8 q3
  obtain ⟨m4, rfl, k4⟩ := nat_of_u8 q4
  obtain ⟨m5, rfl, k5⟩ := nat_of_u8 q5
  obtain ⟨n, hn, b0, b1, b2, b3, b4, b5⟩ := six_num m0 m1 m2 m3 m4 m5 k0 k1 k2 k3 k4 k5
  refine ⟨⟨x0, x1, n, x3, x4⟩, ?_, l0, l1, hn, w3, w4⟩
  rw [hv']
  show _ = [_, _, _, _, _, _, _, _, _, _]
  simp only [b0, b1, b2, b3, b4, b5]
end Go.Proofs.Ytilklfmcdgggfaa
end
section
namespace Go.Proofs.Ytilklfmcdgggfaa
open Go.RowKit
attribute [local irreducible] wpQuiet
set_option linter.unusedSimpArgs false
set_option linter.unusedVariables false

theorem en_cells {W : World} {g : Nat} {x : En} (h : Blk W g (enA x) 49) : W.cell? ⟨g, 0, none⟩ = some (.int .u16 (x.vid : Nat)) ∧ W.cell? ⟨g, 7, none⟩ = some (.int .i64 x.port) ∧ W.cell? ⟨g, 8, none⟩ = some (.int .i64 x.age) :=
  ⟨h.cell 0, h.cell 7, h.cell 8⟩
/-- Drop's. -/
theorem cl40_any (x : En) (v c : Nat) (w : World) (hc : w.cell? ⟨c, 0, none⟩ = some (.int .u16 (v : Nat))) (hl : c < w.heap.size) :
    Calls Try.prog 40 #[enV x, .pointer (some ⟨c, 0, none⟩)] w fun e w' => e = .returned (.bool (decide (x.vid = v))) ∧ Below w.heap.size w w' := by
  obtain ⟨w1, hw1⟩ : ∃ w1, w1 = w.alloc (.cells (enA x) 49) := ⟨_, rfl⟩
  obtain ⟨g, hg⟩ : ∃ g, g = w.heap.size := ⟨_, rfl⟩
  have k1 : Blk w1 g (enA x) 49 := by rw [hw1, hg]; exact Blk.new _ _ _
  have hb1 : Below w.heap.size w w1 := by rw [hw1]; exact (Below.refl w.heap.size w).alloc (Nat.le_refl _) _
  have hc1 : w1.cell? ⟨c, 0, none⟩ = some (.int .u16 (v : Nat)) := (hb1.cell (p := ⟨c, 0, none⟩) hl).trans hc
  obtain ⟨c0, c7, c8⟩ := en_cells k1
  have HB := Lib.hid hb1
  have HW := Lib.hid hw1
  have HG := Lib.hid hg
  have e1 : ((x.vid : Int) == (v : Int)) = decide (x.vid = v) := by rw [Bool.eq_iff_iff]; simp; omega
  clear hw1 hg hb1 k1 hc hl
  go_enter Try.func40, Try.ntmps40
  go_upto_region 1 with fail
  rw [← HW.out, ← HG.out]
  go_wp2_with fail
  go_ret
  exact ⟨ret_bool (by simp), HB.out⟩
/-- Flush's. -/
theorem cl39_any (x : En) (p : Int) (c : Nat) (w : World) (hc : w.cell? ⟨c, 0, none⟩ = some (.int .i64 p)) (hl : c < w.heap.size) :
    Calls Try.prog 39 #[enV x, .pointer (some ⟨c, 0, none⟩)] w fun e w' => e = .returned (.bool (decide (x.port = p))) ∧ Below w.heap.size w w' := by
  obtain ⟨w1, hw1⟩ : ∃ w1, w1 = w.alloc (.cells (enA x) 49) := ⟨_, rfl⟩
  obtain ⟨g, hg⟩ : ∃ g, g = w.heap.size := ⟨_, rfl⟩
  have k1 : Blk w1 g (enA x) 49 := by rw [hw1, hg]; exact Blk.new _ _ _
  have hb1 : Below w.heap.size w w1 := by rw [hw1]; exact (Below.refl w.heap.size w).alloc (Nat.le_refl _) _
  have hc1 : w1.cell? ⟨c, 0, none⟩ = some (.int .i64 p) := (hb1.cell (p := ⟨c, 0, none⟩) hl).trans hc
  obtain ⟨c0, c7, c8⟩ := en_cells k1
  have HB := Lib.hid hb1
  have HW := Lib.hid hw1
  have HG := Lib.hid hg
  clear hw1 hg hb1 k1 hc hl
  go_enter Try.func39, Try.ntmps39
  go_upto_region 1 with fail
  rw [← HW.out, ← HG.out]
  go_wp2_with fail
  go_ret
  exact ⟨ret_bool (by first | rfl | (rw [Bool.eq_iff_iff]; simp)), HB.out⟩
/-- Tick's. -/
theorem cl38_any (x : En) (b : Nat) (mo li : Int) (m : Value) (c : Nat) (w : World) (hc : w.cell? ⟨c, 0, none⟩ = some (.pointer (some ⟨b, 0, none⟩))) (hl : c < w.heap.size) (hb : Blk w b #[.int .i64 mo, .int .i64 li, m] 95) :
    Calls Try.prog 38 #[enV x, .pointer (some ⟨c, 0, none⟩)] w fun e w' => e = .returned (.bool (decide (li ≤ x.age))) ∧ Below w.heap.size w w' := by
  obtain ⟨w1, hw1⟩ : ∃ w1, w1 = w.alloc (.cells (enA x) 49) := ⟨_, rfl⟩
  obtain ⟨g, hg⟩ : ∃ g, g = w.heap.size := ⟨_, rfl⟩
  have k1 : Blk w1 g (enA x) 49 := by rw [hw1, hg]; exact Blk.new _ _ _
  have hb1 : Below w.heap.size w w1 := by rw [hw1]; exact (Below.refl w.heap.size w).alloc (Nat.le_refl _) _
  have hl1 : c < w1.heap.size := Nat.lt_of_lt_of_le hl hb1.size
  have hc1 : w1.cell? ⟨c, 0, none⟩ = some (.pointer (some ⟨b, 0, none⟩)) := (hb1.cell (p := ⟨c, 0, none⟩) hl).trans hc
  have kb : Blk w1 b #[.int .i64 mo, .int .i64 li, m] 95 := hb.below hb1 hb.lt
  have HB := Lib.hid hb1
  have HW := Lib.hid hw1
  have HG := Lib.hid hg
  have HC8 := Lib.hid (show ∀ w', Below w1.heap.size w1 w' → w'.cell? ⟨g, 8, none⟩ = some (.int .i64 x.age) from fun w' hb => (en_cells (k1.below hb k1.lt)).2.2)
  have HCC := Lib.hid (show ∀ w', Below w1.heap.size w1 w' → w'.cell? ⟨c, 0, none⟩ = some (.pointer (some ⟨b, 0, none⟩)) from fun w' hb => (hb.cell (p := ⟨c, 0, none⟩) hl1).trans hc1)
  have HCB := Lib.hid (show ∀ w', Below w1.heap.size w1 w' → w'.cell? ⟨b, 1, none⟩ = some (.int .i64 li) from fun w' hb => (kb.below hb kb.lt).cell 1)
  clear hw1 hg hb1 k1 hc hl hc1 hl1 kb hb
  go_enter Try.func38, Try.ntmps38
  go_upto_region 1 with fail
  rw [← HW.out, ← HG.out]
  refine wp_region_quiet (C := (fun w' => Below w1.heap.size w1 w')) (by kernel_rfl) (by kernel_rfl) (Below.refl _ _).drew ?_
  (refine q_val (v := ?_) (by rfl) ?_ ?_; rotate_left; (· (intro w hC; go_simp; try with_reducible rfl)); (try simp only [Act.put, List.getElem_toArray, List.getElem_cons_succ, List.getElem_cons_zero, List.setIfInBounds_toArray, List.set_cons_zero, List.set_cons_succ]))
  (refine q_val (v := ?_) (by rfl) ?_ ?_; rotate_left; (· (intro w hC; have q := HC8.out w hC; go_simp; try with_reducible rfl)); (try simp only [Act.put, List.getElem_toArray, List.getElem_cons_succ, List.getElem_cons_zero, List.setIfInBounds_toArray, List.set_cons_zero, List.set_cons_succ]))
  (refine q_val (v := ?_) (by rfl) ?_ ?_; rotate_left; (· (intro w hC; have q := HCC.out w hC; go_simp; try with_reducible rfl)); (try simp only [Act.put, List.getElem_toArray, List.getElem_cons_succ, List.getElem_cons_zero, List.setIfInBounds_toArray, List.set_cons_zero, List.set_cons_succ]))
  (refine q_val (v := ?_) (by rfl) ?_ ?_; rotate_left; (· (intro w hC; go_simp; try with_reducible rfl)); (try simp only [Act.put, List.getElem_toArray, List.getElem_cons_succ, List.getElem_cons_zero, List.setIfInBounds_toArray, List.set_cons_zero, List.set_cons_succ]))
  (refine q_val (v := ?_) (by rfl) ?_ ?_; rotate_left; (· (intro w hC; go_simp; try with_reducible rfl)); (try simp only [Act.put, List.getElem_toArray, List.getElem_cons_succ, List.getElem_cons_zero, List.setIfInBounds_toArray, List.set_cons_zero, List.set_cons_succ]))
  (refine q_val (v := ?_) (by rfl) ?_ ?_; rotate_left; (· (intro w hC; have q := HCB.out w hC; go_simp; try with_reducible rfl)); (try simp only [Act.put, List.getElem_toArray, List.getElem_cons_succ, List.getElem_cons_zero, List.setIfInBounds_toArray, List.set_cons_zero, List.set_cons_succ]))
  (refine q_val (v := ?_) (by rfl) ?_ ?_; rotate_left; (· (intro w hC; go_simp; try with_reducible rfl)); (try simp only [Act.put, List.getElem_toArray, List.getElem_cons_succ, List.getElem_cons_zero, List.setIfInBounds_toArray, List.set_cons_zero, List.set_cons_succ]))
  (refine q_val (v := ?_) (by rfl) ?_ ?_; rotate_left; (· (intro w hC; go_simp; try with_reducible rfl)); (try simp only [Act.put, List.getElem_toArray, List.getElem_cons_succ, List.getElem_cons_zero, List.setIfInBounds_toArray, List.set_cons_zero, List.set_cons_succ]))
  refine wpQuiet_nil ?_
  intro w5 hC5
  have K5 := Lib.hid (HB.out.trans (hC5.mono HB.out.size))
  clear hC5
  go_wp2_with fail
  go_ret
  exact ⟨ret_bool (by first | rfl | (rw [Bool.eq_iff_iff]; simp)), K5.out⟩
end Go.Proofs.Ytilklfmcdgggfaa
end
section
namespace Go.Proofs.Ytilklfmcdgggfaa
open Go.RowKit
open Go.ChangeMaps (setBlock)
set_option linter.unusedSimpArgs false
set_option linter.unusedVariables false

/-- The slots, while the region runs. -/
structure Rm8S (b mb E : Nat) (y : En) (f1 f2 f3 f4 f5 f7 f8 f9 f10 f11 f12 f13 f14 f15 f16 f17 f18 f19 f20 f21 f22 f28 f29 f30 : Value) (L : Nat → Bool) (v23 v24 v25 v26 v27 : Value) : Prop where
  e23 : L 0 = true → v23 = .pointer (some ⟨b, 0, none⟩)
  e24 : L 1 = true → v24 = .pointer (some ⟨b, 0, none⟩)
  e25 : L 2 = true → v25 = .pointer (some ⟨b, 2, none⟩)
  e26 : L 3 = true → v26 = .map (some mb)
  e27 : L 4 = true → v27 = kyV y.vid y.mac
abbrev Rm8F (b mb E : Nat) (y : En) (f1 f2 f3 f4 f5 f7 f8 f9 f10 f11 f12 f13 f14 f15 f16 f17 f18 f19 f20 f21 f22 f28 f29 f30 : Value) (v23 v24 v25 v26 v27 : Value) : Act := { tmps := #[.pointer (some ⟨b, 0, none⟩), f1, f2, f3, f4, f5, .pointer (some ⟨E, 0, none⟩), f7, f8, f9, f10, f11, f12, f13, f14, f15, f16, f17, f18, f19, f20, f21, f22, v23, v24, v25, v26, v27, f28, f29, f30], defers := [] }
def Rm8I (b mb E : Nat) (y : En) (f1 f2 f3 f4 f5 f7 f8 f9 f10 f11 f12 f13 f14 f15 f16 f17 f18 f19 f20 f21 f22 f28 f29 f30 : Value) (L : Nat → Bool) (ac : Act) : Prop :=
  ∃ v23 v24 v25 v26 v27, ac = Rm8F b mb E y f1 f2 f3 f4 f5 f7 f8 f9 f10 f11 f12 f13 f14 f15 f16 f17 f18 f19 f20 f21 f22 f28 f29 f30 v23 v24 v25 v26 v27 ∧ Rm8S b mb E y f1 f2 f3 f4 f5 f7 f8 f9 f10 f11 f12 f13 f14 f15 f16 f17 f18 f19 f20 f21 f22 f28 f29 f30 L v23 v24 v25 v26 v27

/-- The rounds: what is in the map, what is still to come. -/
structure RmLp (w : World) (b A B r mb : Nat) (mo li : Int) (p : En → Bool) (l : List En) (left : List (Nat × En)) (lc : List En) (wr : World) : Prop where
  it : ∃ M, It wr r mb kvK vvE M left ∧ RelK enK M lc
  blk : Blk wr b #[.int .i64 mo, .int .i64 li, .map (some mb)] 95
  kept : KeptO A B w wr
  sub : ∀ z ∈ lc, z ∈ l
  same : lc.filter (fun z => !p z) = l.filter (fun z => !p z)
  todo : ∀ z ∈ lc, p z = true → z ∈ left.map (·.2)
theorem RmLp.few {w : World} {b A B r mb : Nat} {mo li : Int} {p : En → Bool} {l : List En} {left : List (Nat × En)} {lc : List En} {wr : World} (h : RmLp w b A B r mb mo li p l left lc wr) (hl : l.length ≤ 1000) : l.length ≤ 1000 := hl
theorem rm_same {p : En → Bool} {l lc : List En} {y : En} (hp : p y = true) (hy : y ∈ lc) (hs : lc.Pairwise (fun a b => enK a < enK b)) (h : lc.filter (fun z => !p z) = l.filter (fun z => !p z)) :
    (cutK enK (enK y) lc).filter (fun z => !p z) = l.filter (fun z => !p z) := by
  rw [cutK_filter hs, List.filter_filter, ← h]
  refine List.filter_congr fun z hz => ?_
  by_cases hk : enK z = enK y
  · obtain ⟨i1, hi1, e1⟩ := List.mem_iff_getElem.1 hz
    obtain ⟨i2, hi2, e2⟩ := List.mem_iff_getElem.1 hy
    have := pairK_inj hs (by rw [List.getElem?_eq_getElem hi1, e1]) (by rw [List.getElem?_eq_getElem hi2, e2]) hk
    subst this
    have e : z = y := e1.symm.trans e2
    simp [e, hp]
  · simp [hk]
theorem rm_todo {p : En → Bool} {left : List (Nat × En)} {lc : List En} {y : En} {k j : Nat} (hj : left[j]? = some (k, y)) (hs : lc.Pairwise (fun a b => enK a < enK b)) (h : ∀ z ∈ lc, p z = true → z ∈ left.map (·.2)) :
    ∀ z ∈ cutK enK (enK y) lc, p z = true → z ∈ (left.eraseIdx j).map (·.2) := by
  intro z hz hp
  rw [cutK_filter hs] at hz
  obtain ⟨hz, hne⟩ := List.mem_filter.1 hz
  obtain ⟨u, hu, rfl⟩ := List.mem_map.1 (h z hz hp)
  rcases mem_erase hj hu with rfl | h3
  · simp at hne
  · exact List.mem_map.2 ⟨u, h3, rfl⟩
theorem rm_keep {p : En → Bool} {left : List (Nat × En)} {lc : List En} {y : En} {k j : Nat} (hj : left[j]? = some (k, y)) (hp : p y = false) (h : ∀ z ∈ lc, p z = true → z ∈ left.map (·.2)) :
    ∀ z ∈ lc, p z = true → z ∈ (left.eraseIdx j).map (·.2) := by
  intro z hz hpz
  obtain ⟨u, hu, rfl⟩ := List.mem_map.1 (h z hz hpz)
  rcases mem_erase hj hu with rfl | h3
  · rw [hp] at hpz; cases hpz
  · exact List.mem_map.2 ⟨u, h3, rfl⟩
theorem rm_len {lc : List En} {y : En} (hy : y ∈ lc) (hs : lc.Pairwise (fun a b => enK a < enK b)) : (cutK enK (enK y) lc).length + 1 = lc.length := by
  unfold cutK
  rcases atK_cases enK (enK y) lc with ⟨h1, h2⟩ | ⟨k, x, h1, h2, h3⟩
  · exact absurd rfl (h2 y hy)
  · rw [h1, if_neg (by omega), List.length_eraseIdx]
    have := (List.getElem?_eq_some_iff.1 h2).1
    rw [if_pos (by omega)]
    omega
theorem erase_no {left : List (Nat × En)} {j : Nat} {k : Nat} {y : En} (hj : left[j]? = some (k, y)) (hn : (left.map (·.1)).Nodup) : k ∉ (left.eraseIdx j).map (·.1) := by
  obtain ⟨hlt, e⟩ := List.getElem?_eq_some_iff.1 hj
  have h1 : left = left.take j ++ (k, y) :: left.drop (j + 1) := by rw [← e, List.getElem_cons_drop, List.take_append_drop]
  rw [List.eraseIdx_eq_take_drop_succ]
  rw [h1, List.map_append, List.map_cons] at hn
  rw [List.map_append, List.mem_append]
  rw [List.nodup_append] at hn
  rintro (h | h)
  · exact hn.2.2 k h k (by simp) rfl
  · exact (List.nodup_cons.1 hn.2.1).1 h
theorem filter_len (p : En → Bool) : ∀ l : List En, (l.filter p).length + (l.filter (fun z => !p z)).length = l.length
  | [] => rfl
  | y :: l => by
    have := filter_len p l
    cases h : p y <;> simp [List.filter_cons, h] <;> omega

set_option maxRecDepth 100000 in
set_option maxHeartbeats 16000000 in
theorem remove_tf {w : World} {b A B cf c : Nat} {mo li : Int} {l : List En} {p : En → Bool} (eg : ∀ (args : Array Value) (w : World), (callFunc cf args).run Try.prog w = .ok (.enter cf args) w)
    (hcf : ∀ W x, KeptO A B w W → (∃ m, Blk W b #[.int .i64 mo, .int .i64 li, m] 95) → Calls Try.prog cf #[enV x, .pointer (some ⟨c, 0, none⟩)] W fun e w' => e = .returned (.bool (p x)) ∧ Below W.heap.size W w')
    (h : TF w b A B mo li l) (hB : B ≤ w.heap.size) (hll : l.length ≤ 1000) :
    Calls Try.prog 37 #[.pointer (some ⟨b, 0, none⟩), .func (.func cf) #[] #[.pointer (some ⟨c, 0, none⟩)]] w fun e w' =>
      e = .returned (.int .i64 ((l.filter p).length : Nat)) ∧ TF w' b A B mo li (l.filter (fun z => !p z)) ∧ KeptO A B w w' := by
  obtain ⟨mb, L, h1, h2, h3, h4, h5, h6, h7⟩ := h
  have hmb := Lib.hid h5.lt
  have hc := h4.cell 2
  simp only [List.getElem?_toArray, List.getElem?_cons_zero, List.getElem?_cons_succ] at hc
  obtain ⟨ob, hrg, hit⟩ := h5.range (P := Try.prog) Try.underlying93
  obtain ⟨w3, hw3⟩ : ∃ w3, w3 = w.alloc ob := ⟨_, rfl⟩
  have hrng : (Instr.range 93 (.map (some mb))).run Try.prog w = .ok (.pointer (some ⟨w.heap.size, 0, none⟩)) (w.alloc ob) := hrg
  obtain ⟨r, hr⟩ : ∃ r, r = w.heap.size := ⟨_, rfl⟩
  rw [← hw3, ← hr] at hrng hit
  have HR := Lib.hid hr
  have I0 := Lib.hid (show RmLp w b A B r mb mo li p l L l w3 from
    { it := ⟨L, hit, h6⟩
      blk := by rw [hw3]; exact h4.alloc _
      kept := by rw [hw3]; exact KeptO.ofBelow ((Below.refl w.heap.size w).alloc (Nat.le_refl _) _)
      sub := fun z hz => hz
      same := rfl
      todo := fun z hz _ => by
        have := (h6.2.map (·.2)).mem_iff.2 (show z ∈ (l.map fun x => (enK x, x)).map (·.2) by simpa using hz)
        exact this })
  have SZ7 := Lib.hid kySize9
  have SZ9 := Lib.hid enSize49
  have HLL := Lib.hid hll
  have HCF := Lib.hid hcf
  have HB := Lib.hid hB
  clear hrg hit hw3 hr hll hcf hB
  go_enter Try.func37, Try.ntmps37
  go_upto_region 5 with fail
  clear hc hrng
  go_loopw [5] (fun v wr => ∃ (left : List (Nat × En)) (lc : List En) (n : Nat), v = .int .i64 n ∧ n + lc.length = l.length ∧ RmLp w b A B r mb mo li p l left lc wr) (fun _ wr => wr.rangeLeft mb r)
  case atStart => exact ⟨L, l, 0, rfl, by omega, I0.out⟩
  case round =>
    obtain ⟨left, lc, n, rfl, hn, hlp⟩ := hrel
    have HN := Lib.hid hn
    have LP := Lib.hid hlp
    obtain ⟨M, hit, hRk⟩ := hlp.it
    clear hlp hn
    have hmr : r ≠ mb := by have := hmb.out; have := HR.out; omega
    have IT0 := Lib.hid hit
    rcases hit.step (P := Try.prog) hmr 0 with ⟨h0, hnx⟩ | ⟨j, x, y, w4, hj, hnx, hit4, hg4, hs4, hen⟩
    · clear hit
      subst h0
      have hall : ∀ z ∈ lc, p z = false := fun z hz => by
        cases hp : p z with
        | false => rfl
        | true => exact absurd (LP.out.todo z hz hp) (by simp)
      have hlc : lc = l.filter (fun z => !p z) := by
        rw [← LP.out.same]
        exact (List.filter_eq_self.2 (fun z hz => by simp [hall z hz])).symm
      have hcnt : (l.filter p).length = n := by
        have q1 := filter_len p l
        have q2 := HN.out
        rw [hlc] at q2
        omega
      have hTF : TF wr b A B mo li lc := ⟨mb, M, h1, h2, h3, LP.out.blk, IT0.out.tb, hRk, fun z hz => h7 z (LP.out.sub z hz)⟩
      have HTF := Lib.hid hTF
      have HCN := Lib.hid hcnt
      have HLC := Lib.hid hlc
      clear hTF hlc hall hcnt
      go_wp2_with fail
      go_ret
      exact ⟨by rw [HCN.out]; rfl, by rw [← HLC.out]; exact HTF.out, LP.out.kept⟩
    · clear hit
      have hxy := hRk.mem (IT0.out.sub.mem (List.mem_of_getElem? hj))
      obtain ⟨rfl, hyl⟩ : x = enK y ∧ y ∈ lc := hxy
      have hyo := h7 y (LP.out.sub y hyl)
      have ekv : kvK (enK y) = kyV y.vid y.mac := kvK_of y.vid y.mac hyo
      rw [ekv] at hnx hen
      unfold vvE at hnx hen
      have hbr : b ≠ r := by have := HR.out; have := HB.out; omega
      have kp4 : KeptO A B w w4 := ⟨hg4.os.trans LP.out.kept.os, hg4.tape.trans LP.out.kept.tape, hg4.output.trans LP.out.kept.output, Nat.le_trans LP.out.kept.size hg4.size,
        fun i hi hl => (hg4.block i (Nat.lt_of_lt_of_le hl LP.out.kept.size) (fun e => by have e := Option.some.inj e; have := HR.out; omega)).trans (LP.out.kept.block i hi hl)⟩
      have k4 : Blk w4 b #[.int .i64 mo, .int .i64 li, .map (some mb)] 95 := LP.out.blk.grown hg4 (fun e => hbr (Option.some.inj e))
      obtain ⟨w5, hw5⟩ : ∃ w5, w5 = (w4.alloc (.cells (kyA y.vid y.mac) 36)).alloc (.cells (enA y) 49) := ⟨_, rfl⟩
      obtain ⟨E, hE⟩ : ∃ E, E = w4.heap.size := ⟨_, rfl⟩
      have b5 : Below w4.heap.size w4 w5 := by rw [hw5]; exact ((Below.refl w4.heap.size w4).alloc (Nat.le_refl _) _).alloc (by simp) _
      have ke : Blk w5 E (kyA y.vid y.mac) 36 := by rw [hw5, hE]; exact (Blk.new _ _ _).alloc _
      have ke1 : Blk w5 (E + 1) (enA y) 49 := by
        rw [hw5, hE]
        have := Blk.new (w4.alloc (.cells (kyA y.vid y.mac) 36)) (enA y) 49
        simpa using this
      have IT5 := Lib.hid (hit4.next_ b5)
      have K5 := Lib.hid (k4.below b5 k4.lt)
      have KP5 := Lib.hid (kp4.trans (KeptO.ofBelow b5))
      have KE := Lib.hid ke
      have KE1 := Lib.hid ke1
      have HW5 := Lib.hid hw5
      have HEE := Lib.hid hE
      have HJ := Lib.hid hj
      have HYC := Lib.hid hyl
      have HYO := Lib.hid hyo
      have HNO := Lib.hid (erase_no hj ((IT0.out.sub.map (·.1)).nodup hRk.nodup))
      have MEAS := Lib.hid (show ∀ w' M', It w' r mb kvK vvE M' (left.eraseIdx j) → w'.rangeLeft mb r < wr.rangeLeft mb r from fun w' M' hi => by
        rw [hi.left_eq, IT0.out.left_eq, List.length_eraseIdx]
        have := (List.getElem?_eq_some_iff.1 hj).1
        rw [if_pos this]
        omega)
      have HCL := Lib.hid (HCF.out w5 y KP5.out ⟨_, K5.out⟩)
      obtain ⟨py, hpy⟩ : ∃ py, p y = py := ⟨_, rfl⟩
      have HYP := Lib.hid hpy
      rw [hpy] at HCL
      clear hbr kp4 k4 b5 ke ke1 hw5 hE hj hyl hyo ekv hit4 hg4 hs4 hpy
      go_upto_region 7 with fail
      rw [← HW5.out, ← HEE.out]
      clear hnx hen
      cases py with
      | false =>
        go_wp2_with (first
          | (refine wpList_load_row rfl 49 _ rfl (E + 1) rfl 49 _ (0, 0) _ KE1.out Try.underlying49 rfl SZ9.out ?_)
          | (go_at_fn cf; refine HCL.out.mono ?_; rintro e w9 ⟨rfl, hb9⟩))
        have LP9 := Lib.hid (show RmLp w b A B r mb mo li p l (left.eraseIdx j) lc w9 from
          { it := ⟨M, IT5.out.next_ hb9, hRk⟩
            blk := K5.out.below hb9 K5.out.lt
            kept := KP5.out.trans (KeptO.ofBelow hb9)
            sub := LP.out.sub
            same := LP.out.same
            todo := rm_keep HJ.out HYP.out LP.out.todo })
        have IT9 := Lib.hid (IT5.out.next_ hb9)
        go_roundw
        case rel => exact ⟨left.eraseIdx j, lc, n, rfl, HN.out, LP9.out⟩
        case measure => exact MEAS.out _ _ IT9.out
      | true =>
        go_upto_region 8 with (first
          | (refine wpList_load_row rfl 49 _ rfl (E + 1) rfl 49 _ (0, 0) _ KE1.out Try.underlying49 rfl SZ9.out ?_)
          | (go_at_fn cf; refine HCL.out.mono ?_; rintro e w9 ⟨rfl, hb9⟩))
        have IT9 := Lib.hid (IT5.out.next_ hb9)
        have K9 := Lib.hid (K5.out.below hb9 K5.out.lt)
        have KE9 := Lib.hid (KE.out.below hb9 KE.out.lt)
        have KP9 := Lib.hid (KP5.out.trans (KeptO.ofBelow hb9))
        have HC9 := Lib.hid (show ∀ w', Below w9.heap.size w9 w' → w'.cell? ⟨b, 2, none⟩ = some (.map (some mb)) from fun w' hb => by rw [(K9.out.below hb K9.out.lt).cell]; rfl)
        clear hb9
        refine wp_region_last 5 (I := Rm8I b mb E y _ _ _ _ _ _ _ _ _ _ _ _ _ _ _ _ _ _ _ _ _ _ _ _) (by kernel_rfl) (by kernel_rfl) (by kernel_rfl) ⟨_, _, _, _, _, rfl, ⟨(fun h => Bool.noConfusion h), (fun h => Bool.noConfusion h), (fun h => Bool.noConfusion h), (fun h => Bool.noConfusion h), (fun h => Bool.noConfusion h)⟩⟩ ?_
        intro w5 hb5
        have hc5 := HC9.out w5 hb5
        have hk5 := KE9.out.below hb5 KE9.out.lt
        have HB6 := Lib.hid hb5
        clear hb5
        refine ⟨?_, ?_⟩
        · intro i hi Lx ac hI hL haft
          obtain ⟨v23, v24, v25, v26, v27, rfl, hs⟩ := hI
          match i, hi with
          | 0, _ =>
            exact i_val rfl (.pointer (some ⟨b, 0, none⟩)) w5 (by rfl) (by go_simp) ⟨⟨(.pointer (some ⟨b, 0, none⟩)), v24, v25, v26, v27, rfl, { hs with e23 := fun _ => rfl }⟩, rfl⟩
          | 1, _ =>
            have e23x := hs.e23 (haft 0 (by decide))
            subst e23x
            exact i_val rfl (.pointer (some ⟨b, 0, none⟩)) w5 (by rfl) (by go_simp) ⟨⟨(.pointer (some ⟨b, 0, none⟩)), (.pointer (some ⟨b, 0, none⟩)), v25, v26, v27, rfl, { hs with e24 := fun _ => rfl }⟩, rfl⟩
          | 2, _ =>
            have e24x := hs.e24 (haft 1 (by decide))
            subst e24x
            exact i_val rfl (.pointer (some ⟨b, 2, none⟩)) w5 (by rfl) (by go_simp) ⟨⟨v23, (.pointer (some ⟨b, 0, none⟩)), (.pointer (some ⟨b, 2, none⟩)), v26, v27, rfl, { hs with e25 := fun _ => rfl }⟩, rfl⟩
          | 3, _ =>
            have e25x := hs.e25 (haft 2 (by decide))
            subst e25x
            have q := hc5
            exact i_val rfl (.map (some mb)) w5 (by rfl) (by go_simp) ⟨⟨v23, v24, (.pointer (some ⟨b, 2, none⟩)), (.map (some mb)), v27, rfl, { hs with e26 := fun _ => rfl }⟩, rfl⟩
          | 4, _ =>
            exact i_val rfl (kyV y.vid y.mac) w5 (by rfl) (run_loadVar_of 36 _ rfl E rfl 36 (kyA y.vid y.mac) _ hk5 Try.underlying36 rfl SZ7.out) ⟨⟨v23, v24, v25, v26, (kyV y.vid y.mac), rfl, { hs with e27 := fun _ => rfl }⟩, rfl⟩
          | k + 5, h =>
            exfalso
            have h2 : k + 5 < 5 := h
            omega
        intro Lx ac hI hall
        obtain ⟨v23, v24, v25, v26, v27, rfl, hs⟩ := hI
        have e23y := hs.e23 (hall 0 (by decide))
        subst e23y
        have e24y := hs.e24 (hall 1 (by decide))
        subst e24y
        have e25y := hs.e25 (hall 2 (by decide))
        subst e25y
        have e26y := hs.e26 (hall 3 (by decide))
        subst e26y
        have e27y := hs.e27 (hall 4 (by decide))
        subst e27y
        clear hs hall
        obtain ⟨o, hd, ht⟩ := (IT9.out.next_ HB6.out).del ky_keys Try.underlying93 hmr (enK y) trivial (fun _ _ => trivial) HNO.out 36 0
        rw [show kvK (enK y) = kyV y.vid y.mac from kvK_of y.vid y.mac HYO.out] at hd
        have hkk : KeptO A B w9 (setBlock w5 mb o) := (KeptO.ofBelow HB6.out).trans (KeptO.setBlock h2.1 h2.2 o)
        have LP9 := Lib.hid (show RmLp w b A B r mb mo li p l (left.eraseIdx j) (cutK enK (enK y) lc) (setBlock w5 mb o) from
          { it := ⟨_, ht, hRk.drop (enK y)⟩
            blk := (K9.out.below HB6.out K9.out.lt).grown (setBlock_grown w5 mb o) (fun e => h3 (Option.some.inj e))
            kept := KP9.out.trans hkk
            sub := fun z hz => LP.out.sub z (cutE_mem hz)
            same := rm_same HYP.out HYC.out hRk.1 LP.out.same
            todo := rm_todo HJ.out hRk.1 LP.out.todo })
        have HLEN := Lib.hid (rm_len HYC.out hRk.1)
        have HD := Lib.hid hd
        clear ht hc5 hk5 hkk hd
        refine i_val rfl (.tuple #[]) (setBlock w5 mb o) (by rfl) (by have q := HD.out; go_simp) ?_
        clear HD
        have hn1 : n < 1001 := by
          have g1 := HLL.out
          have g2 := HN.out
          omega
        have hsum : IntKind.i64.wrap ((n : Int) + 1) = (n : Int) + 1 := IntWalk.i64_in _ (by omega)
        go_wp2_with fail
        go_roundw
        case rel => exact ⟨left.eraseIdx j, cutK enK (enK y) lc, n + 1, by go_num, by have := HN.out; have := HLEN.out; omega, LP9.out⟩
        case measure =>
          obtain ⟨M9, hm9, -⟩ := LP9.out.it
          exact MEAS.out _ _ hm9
end Go.Proofs.Ytilklfmcdgggfaa
end
section
namespace Go.Proofs.Ytilklfmcdgggfaa
open Go.RowKit
set_option linter.unusedSimpArgs false
set_option linter.unusedVariables false

theorem drop_tf {w : World} {b A B : Nat} {mo li : Int} {l : List En} (v : Nat) (h : TF w b A B mo li l) (hB : B ≤ w.heap.size) (hll : l.length ≤ 1000) :
    Calls Try.prog 15 #[.pointer (some ⟨b, 0, none⟩), .int .u16 (v : Nat)] w fun e w' =>
      e = .returned (.int .i64 ((l.filter (fun x => decide (x.vid = v))).length : Nat)) ∧ TF w' b A B mo li (l.filter (fun z => !decide (z.vid = v))) ∧ KeptO A B w w' := by
  obtain ⟨w1, hw1⟩ : ∃ w1, w1 = w.alloc (.cells #[.int .u16 (v : Nat)] 30) := ⟨_, rfl⟩
  obtain ⟨c, hc⟩ : ∃ c, c = w.heap.size := ⟨_, rfl⟩
  have k1 : Blk w1 c #[.int .u16 (v : Nat)] 30 := by rw [hw1, hc]; exact Blk.new _ _ _
  have hb1 : Below w.heap.size w w1 := by rw [hw1]; exact (Below.refl w.heap.size w).alloc (Nat.le_refl _) _
  have hB1 : B ≤ w1.heap.size := Nat.le_trans hB hb1.size
  have T1 := Lib.hid (h.next hB hb1).1
  have KP1 := Lib.hid (KeptO.ofBelow (A := A) (B := B) hb1)
  have RM := Lib.hid (remove_tf (cf := 40) (c := c) (p := fun x => decide (x.vid = v)) (fun args w => by kernel_rfl) (fun W x hk hb => by
    have kc : Blk W c #[.int .u16 (v : Nat)] 30 := hk.blk k1 (.inr (by omega))
    exact cl40_any x v c W (kc.cell 0) kc.lt) T1.out hB1 hll)
  have HW := Lib.hid hw1
  have HC := Lib.hid hc
  clear hw1 hc k1 hb1 hB1 hB hll h
  go_enter Try.func15, Try.ntmps15
  go_upto_region 1 with fail
  rw [← HW.out, ← HC.out]
  go_wp2_with (go_at_call 37; refine RM.out.mono ?_; rintro e w2 ⟨rfl, ht, hk⟩; have HT := Lib.hid ht; have HK := Lib.hid hk; clear ht hk)
  go_ret
  exact ⟨rfl, HT.out, KP1.out.trans HK.out⟩
theorem flush_tf {w : World} {b A B : Nat} {mo li : Int} {l : List En} (p : Int) (h : TF w b A B mo li l) (hB : B ≤ w.heap.size) (hll : l.length ≤ 1000) :
    Calls Try.prog 13 #[.pointer (some ⟨b, 0, none⟩), .int .i64 p] w fun e w' =>
      e = .returned (.int .i64 ((l.filter (fun x => decide (x.port = p))).length : Nat)) ∧ TF w' b A B mo li (l.filter (fun z => !decide (z.port = p))) ∧ KeptO A B w w' := by
  obtain ⟨w1, hw1⟩ : ∃ w1, w1 = w.alloc (.cells #[.int .i64 p] 3) := ⟨_, rfl⟩
  obtain ⟨c, hc⟩ : ∃ c, c = w.heap.size := ⟨_, rfl⟩
  have k1 : Blk w1 c #[.int .i64 p] 3 := by rw [hw1, hc]; exact Blk.new _ _ _
  have hb1 : Below w.heap.size w w1 := by rw [hw1]; exact (Below.refl w.heap.size w).alloc (Nat.le_refl _) _
  have hB1 : B ≤ w1.heap.size := Nat.le_trans hB hb1.size
  have T1 := Lib.hid (h.next hB hb1).1
  have KP1 := Lib.hid (KeptO.ofBelow (A := A) (B := B) hb1)
  have RM := Lib.hid (remove_tf (cf := 39) (c := c) (p := fun x => decide (x.port = p)) (fun args w => by kernel_rfl) (fun W x hk hb => by
    have kc : Blk W c #[.int .i64 p] 3 := hk.blk k1 (.inr (by omega))
    exact cl39_any x p c W (kc.cell 0) kc.lt) T1.out hB1 hll)
  have HW := Lib.hid hw1
  have HC := Lib.hid hc
  clear hw1 hc k1 hb1 hB1 hB hll h
  go_enter Try.func13, Try.ntmps13
  go_upto_region 1 with fail
  rw [← HW.out, ← HC.out]
  go_wp2_with (go_at_call 37; refine RM.out.mono ?_; rintro e w2 ⟨rfl, ht, hk⟩; have HT := Lib.hid ht; have HK := Lib.hid hk; clear ht hk)
  go_ret
  exact ⟨rfl, HT.out, KP1.out.trans HK.out⟩
theorem nil_remove (w : World) (f : Value) : Calls Try.prog 37 #[.pointer none, f] w fun e w' => e = .returned (.int .i64 0) ∧ Below w.heap.size w w' := by
  have b0 : Below w.heap.size w w := Below.refl _ _
  go_enter Try.func37, Try.ntmps37
  go_wp2_with fail
  go_ret
  exact ⟨rfl, b0⟩
theorem nil_drop (w : World) (v : Nat) : Calls Try.prog 15 #[.pointer none, .int .u16 (v : Nat)] w fun e w' => e = .returned (.int .i64 0) ∧ Below w.heap.size w w' := by
  have HB := Lib.hid (show Below w.heap.size w (w.alloc (.cells #[.int .u16 (v : Nat)] 30)) from (Below.refl w.heap.size w).alloc (Nat.le_refl _) _)
  go_enter Try.func15, Try.ntmps15
  go_wp2_with (go_at_call 37; refine (nil_remove _ _).mono ?_; rintro e w2 ⟨rfl, hb⟩; have H2 := Lib.hid hb; clear hb)
  go_ret
  exact ⟨rfl, HB.out.trans (H2.out.mono HB.out.size)⟩
theorem nil_flush (w : World) (p : Int) : Calls Try.prog 13 #[.pointer none, .int .i64 p] w fun e w' => e = .returned (.int .i64 0) ∧ Below w.heap.size w w' := by
  have HB := Lib.hid (show Below w.heap.size w (w.alloc (.cells #[.int .i64 p] 3)) from (Below.refl w.heap.size w).alloc (Nat.le_refl _) _)
  go_enter Try.func13, Try.ntmps13
  go_wp2_with (go_at_call 37; refine (nil_remove _ _).mono ?_; rintro e w2 ⟨rfl, hb⟩; have H2 := Lib.hid hb; clear hb)
  go_ret
  exact ⟨rfl, HB.out.trans (H2.out.mono HB.out.size)⟩
theorem nil_tick (w : World) : Calls Try.prog 11 #[.pointer none] w fun e w' => e = .returned (.int .i64 0) ∧ Below w.heap.size w w' := by
  have HB := Lib.hid (show Below w.heap.size w (w.alloc (.cells #[.pointer none] 24)) from (Below.refl w.heap.size w).alloc (Nat.le_refl _) _)
  go_enter Try.func11, Try.ntmps11
  go_wp2_with fail
  go_ret
  exact ⟨rfl, HB.out⟩
end Go.Proofs.Ytilklfmcdgggfaa
end
section
namespace Go.Proofs.Ytilklfmcdgggfaa
open Go.RowKit Go.ChangeMaps
set_option linter.unusedSimpArgs false
set_option linter.unusedVariables false

theorem filter_modify {α : Type} (p : α → Bool) (f : α → α) : ∀ (l : List α) (j : Nat) (y : α), l[j]? = some y → p y = false → p (f y) = false → (l.modify j f).filter p = l.filter p
  | [], j, y, h, _, _ => by simp at h
  | x :: l, 0, y, h, hp, hf => by
    simp only [List.getElem?_cons_zero, Option.some.injEq] at h
    subst h
    simp [List.filter_cons, hp, hf]
  | x :: l, j + 1, y, h, hp, hf => by
    simp only [List.getElem?_cons_succ] at h
    rw [List.modify_succ_cons, List.filter_cons, List.filter_cons, filter_modify p f l j y h hp hf]
theorem putL_filter {κ ν : Type} [DecidableEq κ] (x : κ) (n : ν) : ∀ L : List (κ × ν), (putL x n L).filter (fun y => decide (¬ y.1 = x)) = L.filter (fun y => decide (¬ y.1 = x))
  | [] => by simp [putL]
  | y :: l => by
    unfold putL
    by_cases c : x = y.1
    · rw [if_pos c, List.filter_cons_of_neg (by simp), List.filter_cons_of_neg (by simp [c])]
    · rw [if_neg c, List.filter_cons, List.filter_cons, putL_filter x n l]

section
variable {κ ν : Type} [DecidableEq κ]
variable {P : Program} {w w' : World} {r b : Nat} {kv : κ → Value} {vv : ν → Value} {L left : List (κ × ν)} {t k e : TypeId} {ok : κ → Prop}
theorem It.put (h : It w r b kv vv L left) (K : KeyEq P k kv ok) (ht : P.underlying t = some (.map k e)) (hrb : r ≠ b) (x : κ) (n : ν) (hx : ok x) (hL : ∀ y ∈ L, ok y.1) (hno : x ∉ left.map (·.1)) (hin : x ∈ L.map (·.1)) :
    ∃ o, (Instr.mapUpdate t (.map (some b)) (kv x) (vv n)).run P w = .ok () (setBlock w b o) ∧ It (setBlock w b o) r b kv vv (putL x n L) left := by
  obtain ⟨es, clock, since, c0, seen, hr, hb, hes, hn, hnb, hold, hsc, hsk, hl, hsub⟩ := h
  have hlt : b < w.heap.size := (Array.getElem?_eq_some_iff.1 hb).1
  obtain ⟨hk, hv⟩ := Tb.keys hes
  have hf := K.find x es.toList (L.map (·.1)) w hx (fun y hy => by obtain ⟨p, hp, rfl⟩ := List.mem_map.1 hy; exact hL p hp) hk
  rw [hv] at hf
  have hck := K.chk false x w hx
  have hr2 (o : Obj) : (setBlock w b o).heap[r]? = some (.mapIter (some b) since seen c0) := by
    simp only [setBlock]
    rw [Array.getElem?_setIfInBounds_ne (fun q => hrb q.symm)]
    exact hr
  have hsub2 : left.Sublist (putL x n L) := by
    have e1 : left = left.filter (fun y => decide (¬ y.1 = x)) := by
      symm
      rw [List.filter_eq_self]
      intro z hz
      simp only [decide_eq_true_eq]
      exact fun q => hno (q ▸ List.mem_map.2 ⟨z, hz, rfl⟩)
    rw [e1]
    have q := hsub.filter (fun y => decide (¬ y.1 = x))
    rw [← putL_filter x n L] at q
    exact q.trans List.filter_sublist
  have hlen : es.size = L.length := by
    have := congrArg List.length hes
    simpa using this
  rcases findIn_spec vv x L 0 with ⟨h1, h2, h3, -, h5⟩ | ⟨j, n0, h1, h2, h3, h4, -⟩
  · exact absurd hin h5
  · rw [h2] at hf
    have hj : j < L.length := (List.getElem?_eq_some_iff.1 h3).1
    have hje : j < es.size := by omega
    have hjs : es.toList[j]? = some (es[j]'hje) := by rw [Array.getElem?_toList, Array.getElem?_eq_getElem hje]
    have hkey : (es[j]'hje).key = kv x := by
      have := congrArg (fun l => l[j]?) hes
      simp only [List.getElem?_map, h3, Array.getElem?_toList, Array.getElem?_eq_getElem hje, Option.map_some, Option.some.injEq, Prod.mk.injEq] at this
      exact this.1
    have hgd : ((es[j]?).map (·.key)).getD (kv x) = kv x := by
      rw [Array.getElem?_eq_getElem hje]
      exact hkey
    have hst := K.stays x w hx
    have hout : (!seen.contains (es[j]'hje).born) = false := by
      cases hc : (!seen.contains (es[j]'hje).born) with
      | false => rfl
      | true =>
        have hm : (es[j]'hje) ∈ (leftOf es seen).toList := by
          unfold leftOf
          rw [Array.toList_filter, List.mem_filter]
          exact ⟨List.mem_of_getElem? hjs, hc⟩
        have hm2 : ((es[j]'hje).key, (es[j]'hje).val) ∈ left.map (fun y => (kv y.1, vv y.2)) := hl ▸ List.mem_map.2 ⟨_, hm, rfl⟩
        obtain ⟨y, hy, he⟩ := List.mem_map.1 hm2
        simp only [Prod.mk.injEq] at he
        have : y.1 = x := K.inj _ _ (hL y (hsub.mem hy)) hx (by rw [he.1, hkey])
        exact absurd (List.mem_map.2 ⟨y, hy, this⟩) hno
    have e2 : (leftOf (es.modify j fun e => { e with key := kv x, val := vv n }) seen).toList = (leftOf es seen).toList := by
      unfold leftOf
      rw [Array.toList_filter, Array.toList_filter, Array.toList_modify]
      exact filter_modify _ _ es.toList j _ hjs hout hout
    refine ⟨.map (es.modify j fun e => { e with key := kv x, val := vv n }) clock, ?_, ⟨_, _, since, c0, seen, hr2 _, setBlock_at hlt _, ?_, ?_, ?_, ?_, hsc, hsk, by rw [e2]; exact hl, hsub2⟩⟩
    · rw [Nat.zero_add] at hf
      simp only [Instr.mapUpdate, Sem.run_bind, run_underlying ht, MapKept.run_getObj_map hb, hck, hf, Result.andThen, hgd, hst, MapKept.run_setObj_map _ hb]
      rfl
    · rw [h4, Array.toList_modify]
      apply List.ext_getElem?
      intro i
      have hi := congrArg (fun l => l[i]?) hes
      simp only [List.getElem?_map, List.getElem?_modify, List.getElem?_set] at hi ⊢
      by_cases c : j = i
      · subst c
        simp [hj, Array.getElem?_toList, Array.getElem?_eq_getElem hje]
      · simp [c]
        simpa using hi
    · rw [h4, keys_set h3]
      exact hn
    · have : (es.modify j fun e => { e with key := kv x, val := vv n }).toList.map (·.born) = es.toList.map (·.born) := by
        rw [Array.toList_modify]
        apply List.ext_getElem?
        intro i
        simp only [List.getElem?_map, List.getElem?_modify]
        by_cases c : j = i <;> cases es.toList[i]? <;> simp [c]
      rw [this]
      exact hnb
    · intro e0 he0
      obtain ⟨i, hi, rfl⟩ := List.mem_iff_getElem.1 he0
      have h0 : i < es.toList.length := by simpa using hi
      have := hold (es.toList[i]) (List.getElem_mem h0)
      simp only [Array.getElem_toList, Array.getElem_modify] at this ⊢
      split <;> simpa using this
end
end Go.Proofs.Ytilklfmcdgggfaa
end
section
namespace Go.Proofs.Ytilklfmcdgggfaa
open Go.RowKit
open Go.ChangeMaps (setBlock)
set_option linter.unusedSimpArgs false
set_option linter.unusedVariables false

/-- The slots, while the region runs. -/
structure Tk7S (b mb c E : Nat) (y z : En) (f0 f2 f5 f6 f7 f8 f9 f10 f11 f12 f13 f14 f15 f16 f17 f18 f19 f20 f27 f28 f29 : Value) (L : Nat → Bool) (v21 v22 v23 v24 v25 v26 : Value) : Prop where
  e21 : L 0 = true → v21 = .pointer (some ⟨b, 0, none⟩)
  e22 : L 1 = true → v22 = .pointer (some ⟨b, 0, none⟩)
  e23 : L 2 = true → v23 = .pointer (some ⟨b, 2, none⟩)
  e24 : L 3 = true → v24 = .map (some mb)
  e25 : L 4 = true → v25 = kyV y.vid y.mac
  e26 : L 5 = true → v26 = enV z
abbrev Tk7F (b mb c E : Nat) (y z : En) (f0 f2 f5 f6 f7 f8 f9 f10 f11 f12 f13 f14 f15 f16 f17 f18 f19 f20 f27 f28 f29 : Value) (v21 v22 v23 v24 v25 v26 : Value) : Act := { tmps := #[f0, .pointer (some ⟨c, 0, none⟩), f2, .pointer (some ⟨E, 0, none⟩), .pointer (some ⟨E + 1, 0, none⟩), f5, f6, f7, f8, f9, f10, f11, f12, f13, f14, f15, f16, f17, f18, f19, f20, v21, v22, v23, v24, v25, v26, f27, f28, f29], defers := [] }
def Tk7I (b mb c E : Nat) (y z : En) (f0 f2 f5 f6 f7 f8 f9 f10 f11 f12 f13 f14 f15 f16 f17 f18 f19 f20 f27 f28 f29 : Value) (L : Nat → Bool) (ac : Act) : Prop :=
  ∃ v21 v22 v23 v24 v25 v26, ac = Tk7F b mb c E y z f0 f2 f5 f6 f7 f8 f9 f10 f11 f12 f13 f14 f15 f16 f17 f18 f19 f20 f27 f28 f29 v21 v22 v23 v24 v25 v26 ∧ Tk7S b mb c E y z f0 f2 f5 f6 f7 f8 f9 f10 f11 f12 f13 f14 f15 f16 f17 f18 f19 f20 f27 f28 f29 L v21 v22 v23 v24 v25 v26

/-- An entry that is a tick older. -/
def upE (x : En) : En := ⟨x.vid, x.mac, x.port, x.age + 1⟩
theorem upE_key (x : En) : enK (upE x) = enK x := rfl
/-- Those that came up are a tick older. -/
def tkL (left : List (Nat × En)) (l : List En) : List En := l.map fun x => if enK x ∈ left.map (·.1) then x else upE x
theorem tkL_key (left : List (Nat × En)) (x : En) : enK (if enK x ∈ left.map (·.1) then x else upE x) = enK x := by
  split <;> rfl
theorem tkL_all {L : List (Nat × En)} {l : List En} (h : RelK enK L l) : tkL L l = l := by
  unfold tkL
  have : ∀ x ∈ l, (if enK x ∈ L.map (·.1) then x else upE x) = x := fun x hx => by
    rw [if_pos]
    exact List.mem_map.2 ⟨(enK x, x), h.2.mem_iff.2 (List.mem_map.2 ⟨x, hx, rfl⟩), rfl⟩
  rw [List.map_congr_left this, List.map_id']
theorem tkL_none (l : List En) : tkL [] l = l.map upE := by
  unfold tkL
  refine List.map_congr_left fun x _ => ?_
  rw [if_neg (by simp)]
theorem mem_of_rel {L : List (Nat × En)} {l : List En} (h : RelK enK L l) {y : Nat × En} (hy : y ∈ L) : y.1 = enK y.2 ∧ y.2 ∈ l := h.mem hy
/-- What comes up hasn't been turned yet. -/
theorem tk_old {M left : List (Nat × En)} {l : List En} {y : En} {j : Nat} (h : RelK enK M (tkL left l)) (hm : (enK y, y) ∈ M) (hj : left[j]? = some (enK y, y)) : y ∈ l := by
  obtain ⟨-, h2⟩ := h.mem hm
  obtain ⟨x, hx, e⟩ := List.mem_map.1 h2
  have hk : enK y = enK x := by
    have := congrArg enK e
    rw [tkL_key] at this
    exact this.symm
  have hin : enK x ∈ left.map (·.1) := by
    rw [← hk]
    exact List.mem_map.2 ⟨_, List.mem_of_getElem? hj, rfl⟩
  rw [if_pos hin] at e
  have e' : x = y := e
  rw [← e']
  exact hx
theorem tk_rel {M left : List (Nat × En)} {l : List En} {y : En} {j : Nat} (h : RelK enK M (tkL left l)) (hm : (enK y, y) ∈ M) (hj : left[j]? = some (enK y, y)) (hn : (left.map (·.1)).Nodup) :
    RelK enK (putL (enK y) (upE y) M) (tkL (left.eraseIdx j) l) := by
  have hyl := tk_old h hm hj
  obtain ⟨i, hi, e⟩ := List.mem_iff_getElem.1 hyl
  have hli : l[i]? = some y := by rw [List.getElem?_eq_getElem hi, e]
  have hin : enK y ∈ left.map (·.1) := List.mem_map.2 ⟨_, List.mem_of_getElem? hj, rfl⟩
  have hc : (tkL left l)[i]? = some y := by
    unfold tkL
    rw [List.getElem?_map, hli]
    simp only [Option.map_some]
    rw [if_pos hin]
  have q := h.set (upE y) hc rfl
  have hno := erase_no hj hn
  have e2 : (tkL left l).set i (upE y) = tkL (left.eraseIdx j) l := by
    apply List.ext_getElem?
    intro k
    rw [List.getElem?_set]
    by_cases ck : i = k
    · subst ck
      have hlen : i < (tkL left l).length := (List.getElem?_eq_some_iff.1 hc).1
      rw [if_pos rfl, if_pos hlen]
      unfold tkL
      rw [List.getElem?_map, hli]
      simp only [Option.map_some]
      rw [if_neg hno]
    · rw [if_neg ck]
      unfold tkL
      rw [List.getElem?_map, List.getElem?_map]
      cases hk : l[k]? with
      | none => rfl
      | some x =>
        simp only [Option.map_some]
        have hne : enK x ≠ enK y := fun eq => by
          have hs : (tkL left l)[k]? = some (if enK x ∈ left.map (·.1) then x else upE x) := by
            unfold tkL
            rw [List.getElem?_map, hk]
            rfl
          have := pairK_inj h.1 hs hc (by rw [tkL_key]; exact eq)
          exact ck this.symm
        have hiff : enK x ∈ left.map (·.1) ↔ enK x ∈ (left.eraseIdx j).map (·.1) := by
          constructor
          · intro hx
            obtain ⟨u, hu, hux⟩ := List.mem_map.1 hx
            rcases mem_erase hj hu with rfl | h3
            · exact absurd hux.symm hne
            · exact List.mem_map.2 ⟨u, h3, hux⟩
          · intro hx
            obtain ⟨u, hu, hux⟩ := List.mem_map.1 hx
            exact List.mem_map.2 ⟨u, (List.eraseIdx_sublist _ _).mem hu, hux⟩
        by_cases ci : enK x ∈ left.map (·.1)
        · rw [if_pos ci, if_pos (hiff.1 ci)]
        · rw [if_neg ci, if_neg (fun q => ci (hiff.2 q))]
  rw [e2] at q
  exact q
/-- The rounds. -/
structure TkLp (w : World) (b A B r mb : Nat) (mo li : Int) (l : List En) (left : List (Nat × En)) (wr : World) : Prop where
  it : ∃ M, It wr r mb kvK vvE M left ∧ RelK enK M (tkL left l)
  blk : Blk wr b #[.int .i64 mo, .int .i64 li, .map (some mb)] 95
  kept : KeptO A B w wr

set_option maxRecDepth 100000 in
set_option maxHeartbeats 16000000 in
theorem tick_tf {w : World} {b A B : Nat} {mo li : Int} {l : List En} (h : TF w b A B mo li l) (hB : B ≤ w.heap.size) (hll : l.length ≤ 1000) (hage : ∀ x ∈ l, 0 ≤ x.age ∧ x.age < 100000) :
    Calls Try.prog 11 #[.pointer (some ⟨b, 0, none⟩)] w fun e w' =>
      e = .returned (.int .i64 (((l.map upE).filter (fun x => decide (li ≤ x.age))).length : Nat)) ∧ TF w' b A B mo li ((l.map upE).filter (fun z => !decide (li ≤ z.age))) ∧ KeptO A B w w' := by
  obtain ⟨w1, hw1⟩ : ∃ w1, w1 = w.alloc (.cells #[.pointer (some ⟨b, 0, none⟩)] 24) := ⟨_, rfl⟩
  obtain ⟨c, hcE⟩ : ∃ c, c = w.heap.size := ⟨_, rfl⟩
  have k1 : Blk w1 c #[.pointer (some ⟨b, 0, none⟩)] 24 := by rw [hw1, hcE]; exact Blk.new _ _ _
  have hb1 : Below w.heap.size w w1 := by rw [hw1]; exact (Below.refl w.heap.size w).alloc (Nat.le_refl _) _
  have hB1 : B ≤ w1.heap.size := Nat.le_trans hB hb1.size
  have HK1 := Lib.hid (KeptO.ofBelow (A := A) (B := B) hb1)
  obtain ⟨mb, L, h1, h2, h3, h4, h5, h6, h7⟩ := (h.next hB hb1).1
  have hmb := Lib.hid (show mb < w.heap.size by have := h2.2; omega)
  have hbw := Lib.hid (show b < w.heap.size by have := h1.2; omega)
  have hp := k1.cell 0
  have hc := h4.cell 2
  simp only [List.getElem?_toArray, List.getElem?_cons_zero, List.getElem?_cons_succ] at hc hp
  obtain ⟨ob, hrg, hit⟩ := h5.range (P := Try.prog) Try.underlying93
  obtain ⟨w3, hw3⟩ : ∃ w3, w3 = w1.alloc ob := ⟨_, rfl⟩
  have hrng : (Instr.range 93 (.map (some mb))).run Try.prog w1 = .ok (.pointer (some ⟨w1.heap.size, 0, none⟩)) (w1.alloc ob) := hrg
  obtain ⟨r, hr⟩ : ∃ r, r = w1.heap.size := ⟨_, rfl⟩
  rw [← hw3, ← hr] at hrng hit
  have HR := Lib.hid hr
  have HCB := Lib.hid (show B ≤ c by rw [hcE]; exact hB)
  have KC1 := Lib.hid k1
  have I0 := Lib.hid (show TkLp w1 b A B r mb mo li l L w3 from
    { it := ⟨L, hit, by rw [tkL_all h6]; exact h6⟩
      blk := by rw [hw3]; exact h4.alloc _
      kept := by rw [hw3]; exact KeptO.ofBelow ((Below.refl w1.heap.size w1).alloc (Nat.le_refl _) _) })
  have HR1 := Lib.hid (show w.heap.size ≤ r by rw [hr]; exact hb1.size)
  have SZ7 := Lib.hid kySize9
  have SZ9 := Lib.hid enSize49
  have HLL := Lib.hid hll
  have HAGE := Lib.hid hage
  have HW := Lib.hid hw1
  have HCE := Lib.hid hcE
  clear hrg hit hw3 hr hll hage hB hB1 hb1 k1 hw1 hcE h
  go_enter Try.func11, Try.ntmps11
  go_upto_region 1 with fail
  rw [← HW.out, ← HCE.out]
  go_upto_region 4 with fail
  clear hc hrng hp
  go_loopw [3] (fun _ wr => ∃ (left : List (Nat × En)), TkLp w1 b A B r mb mo li l left wr) (fun _ wr => wr.rangeLeft mb r)
  case atStart => exact ⟨L, I0.out⟩
  case round =>
    obtain ⟨left, hlp⟩ := hrel
    have LP := Lib.hid hlp
    obtain ⟨M, hit, hRk⟩ := hlp.it
    clear hlp
    have hmr : r ≠ mb := by have := hmb.out; have := HR1.out; omega
    have IT0 := Lib.hid hit
    have KC := Lib.hid (LP.out.kept.blk KC1.out (.inr HCB.out))
    rcases hit.step (P := Try.prog) hmr 0 with ⟨h0, hnx⟩ | ⟨j, x, y, w4, hj, hnx, hit4, hg4, hs4, hen⟩
    · clear hit
      subst h0
      rw [tkL_none] at hRk
      have hTF : TF wr b A B mo li (l.map upE) := ⟨mb, M, h1, h2, h3, LP.out.blk, IT0.out.tb, hRk, fun z hz => by
        obtain ⟨x, hx, rfl⟩ := List.mem_map.1 hz
        exact h7 x hx⟩
      have RM := Lib.hid (remove_tf (cf := 38) (c := c) (p := fun x => decide (li ≤ x.age)) (fun args w => by kernel_rfl) (fun W x hk hb => by
        obtain ⟨m, hb⟩ := hb
        have kc : Blk W c #[.pointer (some ⟨b, 0, none⟩)] 24 := hk.blk KC.out (.inr HCB.out)
        exact cl38_any x b mo li m c W (kc.cell 0) kc.lt hb) hTF (by have := HCB.out; have := KC.out.lt; omega) (by rw [List.length_map]; exact HLL.out))
      have hp := KC.out.cell 0
      simp only [List.getElem?_toArray, List.getElem?_cons_zero] at hp
      clear hTF
      go_wp2_with (go_at_call 37; refine RM.out.mono ?_; rintro e w8 ⟨rfl, ht, hk⟩; have HT := Lib.hid ht; have HK := Lib.hid hk; clear ht hk)
      go_ret
      exact ⟨rfl, HT.out, HK1.out.trans (LP.out.kept.trans HK.out)⟩
    · clear hit
      have hmem := IT0.out.sub.mem (List.mem_of_getElem? hj)
      obtain ⟨hkx, -⟩ := hRk.mem hmem
      obtain rfl : x = enK y := hkx
      have hyl := tk_old hRk hmem hj
      have hyo := h7 y hyl
      have ekv : kvK (enK y) = kyV y.vid y.mac := kvK_of y.vid y.mac hyo
      rw [ekv] at hnx hen
      unfold vvE at hnx hen
      have hbr : b ≠ r := by have := HR1.out; have := hbw.out; omega
      have kp4 : KeptO A B w1 w4 := ⟨hg4.os.trans LP.out.kept.os, hg4.tape.trans LP.out.kept.tape, hg4.output.trans LP.out.kept.output, Nat.le_trans LP.out.kept.size hg4.size,
        fun i hi hl => (hg4.block i (Nat.lt_of_lt_of_le hl LP.out.kept.size) (fun e => by have e := Option.some.inj e; have := HR.out; omega)).trans (LP.out.kept.block i hi hl)⟩
      have k4 : Blk w4 b #[.int .i64 mo, .int .i64 li, .map (some mb)] 95 := LP.out.blk.grown hg4 (fun e => hbr (Option.some.inj e))
      obtain ⟨w5, hw5⟩ : ∃ w5, w5 = (w4.alloc (.cells (kyA y.vid y.mac) 36)).alloc (.cells (enA y) 49) := ⟨_, rfl⟩
      obtain ⟨E, hE⟩ : ∃ E, E = w4.heap.size := ⟨_, rfl⟩
      have b5 : Below w4.heap.size w4 w5 := by rw [hw5]; exact ((Below.refl w4.heap.size w4).alloc (Nat.le_refl _) _).alloc (by simp) _
      have ke : Blk w5 E (kyA y.vid y.mac) 36 := by rw [hw5, hE]; exact (Blk.new _ _ _).alloc _
      have ke1 : Blk w5 (E + 1) (enA y) 49 := by
        rw [hw5, hE]
        have := Blk.new (w4.alloc (.cells (kyA y.vid y.mac) 36)) (enA y) 49
        simpa using this
      obtain ⟨z, hzE⟩ : ∃ z, z = upE y := ⟨_, rfl⟩
      obtain ⟨w9, hw9⟩ : ∃ w9, w9 = w5.setCell ⟨E + 1, 8, none⟩ (.int .i64 (y.age + 1)) := ⟨_, rfl⟩
      have hEl : w1.heap.size ≤ E ∧ mb < E ∧ r < E ∧ b < E := by
        have q1 := kp4.size
        have q2 := hit4.lt
        have q3 := k4.lt
        have q4 := hit4.tb.lt
        omega
      have b9 : Below w4.heap.size w4 w9 := by
        rw [hw9]
        exact b5.trans ((Below.refl w4.heap.size w5).setCell (by show w4.heap.size ≤ E + 1; omega) _)
      have IT9 := Lib.hid (hit4.next_ b9)
      have K9 := Lib.hid (k4.below b9 k4.lt)
      have KP9 := Lib.hid (kp4.trans (KeptO.ofBelow b9))
      have KE9 := Lib.hid (show Blk w9 E (kyA y.vid y.mac) 36 by rw [hw9]; exact ke.other (by show E + 1 ≠ E; omega) _)
      have KZ9 := Lib.hid (show Blk w9 (E + 1) (enA z) 49 by rw [hw9, hzE]; exact ke1.set 8 _)
      have KC9 := Lib.hid (show Blk w9 c #[.pointer (some ⟨b, 0, none⟩)] 24 from KP9.out.blk KC1.out (.inr HCB.out))
      have c8 := ke1.cell 8
      have f8 := ke1.free 8
      simp only [List.getElem?_toArray, List.getElem?_cons_zero, List.getElem?_cons_succ] at c8
      have hsum : IntKind.i64.wrap (y.age + 1) = y.age + 1 := IntWalk.i64_in _ (by have := HAGE.out y hyl; omega)
      have HW5 := Lib.hid hw5
      have HW9 := Lib.hid hw9
      have HEE := Lib.hid hE
      have HZ := Lib.hid (show vvE (upE y) = enV z by rw [hzE]; rfl)
      have HJ := Lib.hid hj
      have HYO := Lib.hid hyo
      have HNL := Lib.hid (show (left.map (·.1)).Nodup from (IT0.out.sub.map (·.1)).nodup hRk.nodup)
      have HNO := Lib.hid (erase_no hj HNL.out)
      have HIN := Lib.hid (show enK y ∈ M.map (·.1) from List.mem_map.2 ⟨_, hmem, rfl⟩)
      have MEAS := Lib.hid (show ∀ w' M', It w' r mb kvK vvE M' (left.eraseIdx j) → w'.rangeLeft mb r < wr.rangeLeft mb r from fun w' M' hi => by
        rw [hi.left_eq, IT0.out.left_eq, List.length_eraseIdx]
        have := (List.getElem?_eq_some_iff.1 hj).1
        rw [if_pos this]
        omega)
      have HC9 := Lib.hid (show ∀ w', Below w9.heap.size w9 w' → w'.cell? ⟨b, 2, none⟩ = some (.map (some mb)) from fun w' hb => by rw [(K9.out.below hb K9.out.lt).cell]; rfl)
      have HC6 := Lib.hid (show ∀ w', Below w9.heap.size w9 w' → w'.cell? ⟨c, 0, none⟩ = some (.pointer (some ⟨b, 0, none⟩)) from fun w' hb => by rw [(KC9.out.below hb KC9.out.lt).cell]; rfl)
      clear hbr kp4 k4 b5 b9 ke ke1 hw5 hw9 hE hzE hj hyl hyo ekv hit4 hg4 hs4 hEl
      go_upto_region 6 with fail
      rw [← HW5.out, ← HEE.out]
      clear hnx hen
      go_upto_region 7 with fail
      rw [← HW9.out]
      clear c8 f8 hsum
      refine wp_region_last 6 (I := Tk7I b mb c E y z _ _ _ _ _ _ _ _ _ _ _ _ _ _ _ _ _ _ _ _ _) (by kernel_rfl) (by kernel_rfl) (by kernel_rfl) ⟨_, _, _, _, _, _, rfl, ⟨(fun h => Bool.noConfusion h), (fun h => Bool.noConfusion h), (fun h => Bool.noConfusion h), (fun h => Bool.noConfusion h), (fun h => Bool.noConfusion h), (fun h => Bool.noConfusion h)⟩⟩ ?_
      intro w5 hb5
      have hc5 := HC9.out w5 hb5
      have hc6 := HC6.out w5 hb5
      have hk5 := KE9.out.below hb5 KE9.out.lt
      have hk6 := KZ9.out.below hb5 KZ9.out.lt
      have HB6 := Lib.hid hb5
      clear hb5
      refine ⟨?_, ?_⟩
      · intro i hi Lx ac hI hL haft
        obtain ⟨v21, v22, v23, v24, v25, v26, rfl, hs⟩ := hI
        match i, hi with
        | 0, _ =>
          have q := hc6
          exact i_val rfl (.pointer (some ⟨b, 0, none⟩)) w5 (by rfl) (by go_simp) ⟨⟨(.pointer (some ⟨b, 0, none⟩)), v22, v23, v24, v25, v26, rfl, { hs with e21 := fun _ => rfl }⟩, rfl⟩
        | 1, _ =>
          have e21x := hs.e21 (haft 0 (by decide))
          subst e21x
          exact i_val rfl (.pointer (some ⟨b, 0, none⟩)) w5 (by rfl) (by go_simp) ⟨⟨(.pointer (some ⟨b, 0, none⟩)), (.pointer (some ⟨b, 0, none⟩)), v23, v24, v25, v26, rfl, { hs with e22 := fun _ => rfl }⟩, rfl⟩
        | 2, _ =>
          have e22x := hs.e22 (haft 1 (by decide))
          subst e22x
          exact i_val rfl (.pointer (some ⟨b, 2, none⟩)) w5 (by rfl) (by go_simp) ⟨⟨v21, (.pointer (some ⟨b, 0, none⟩)), (.pointer (some ⟨b, 2, none⟩)), v24, v25, v26, rfl, { hs with e23 := fun _ => rfl }⟩, rfl⟩
        | 3, _ =>
          have e23x := hs.e23 (haft 2 (by decide))
          subst e23x
          have q := hc5
          exact i_val rfl (.map (some mb)) w5 (by rfl) (by go_simp) ⟨⟨v21, v22, (.pointer (some ⟨b, 2, none⟩)), (.map (some mb)), v25, v26, rfl, { hs with e24 := fun _ => rfl }⟩, rfl⟩
        | 4, _ =>
          exact i_val rfl (kyV y.vid y.mac) w5 (by rfl) (run_loadVar_of 36 _ rfl E rfl 36 (kyA y.vid y.mac) _ hk5 Try.underlying36 rfl SZ7.out) ⟨⟨v21, v22, v23, v24, (kyV y.vid y.mac), v26, rfl, { hs with e25 := fun _ => rfl }⟩, rfl⟩
        | 5, _ =>
          exact i_val rfl (enV z) w5 (by rfl) (run_loadVar_of 49 _ rfl (E + 1) rfl 49 (enA z) _ hk6 Try.underlying49 rfl SZ9.out) ⟨⟨v21, v22, v23, v24, v25, (enV z), rfl, { hs with e26 := fun _ => rfl }⟩, rfl⟩
        | k + 6, h =>
          exfalso
          have h2 : k + 6 < 6 := h
          omega
      intro Lx ac hI hall
      obtain ⟨v21, v22, v23, v24, v25, v26, rfl, hs⟩ := hI
      have e21y := hs.e21 (hall 0 (by decide))
      subst e21y
      have e22y := hs.e22 (hall 1 (by decide))
      subst e22y
      have e23y := hs.e23 (hall 2 (by decide))
      subst e23y
      have e24y := hs.e24 (hall 3 (by decide))
      subst e24y
      have e25y := hs.e25 (hall 4 (by decide))
      subst e25y
      have e26y := hs.e26 (hall 5 (by decide))
      subst e26y
      clear hs hall
      obtain ⟨o, hd, ht⟩ := (IT9.out.next_ HB6.out).put ky_keys Try.underlying93 hmr (enK y) (upE y) trivial (fun _ _ => trivial) HNO.out HIN.out
      rw [show kvK (enK y) = kyV y.vid y.mac from kvK_of y.vid y.mac HYO.out, HZ.out] at hd
      have hkk : KeptO A B w9 (setBlock w5 mb o) := (KeptO.ofBelow HB6.out).trans (KeptO.setBlock h2.1 h2.2 o)
      have LP9 := Lib.hid (show TkLp w1 b A B r mb mo li l (left.eraseIdx j) (setBlock w5 mb o) from
        { it := ⟨_, ht, by
            have q := tk_rel hRk (List.mem_of_getElem? HJ.out |> IT0.out.sub.mem) HJ.out HNL.out
            exact q⟩
          blk := (K9.out.below HB6.out K9.out.lt).grown (setBlock_grown w5 mb o) (fun e => h3 (Option.some.inj e))
          kept := KP9.out.trans hkk })
      have HD := Lib.hid hd
      clear ht hc5 hc6 hk5 hk6 hkk hd
      refine i_skip rfl (setBlock w5 mb o) (by rfl) (by have q := HD.out; unfold vvE at q; go_simp) ?_
      clear HD
      simp only [Tk7F, Act.put, List.getElem_toArray, List.getElem_cons_succ, List.getElem_cons_zero]
      go_wp2_with fail
      go_roundw
      case rel => exact ⟨left.eraseIdx j, LP9.out⟩
      case measure =>
        obtain ⟨M9, hm9, -⟩ := LP9.out.it
        exact MEAS.out _ _ hm9
end Go.Proofs.Ytilklfmcdgggfaa
end
section
namespace Go.Proofs.Ytilklfmcdgggfaa
open Go.RowKit
set_option linter.unusedSimpArgs false
set_option linter.unusedVariables false

theorem nil_list9 (w : World) : Calls Try.prog 22 #[.pointer none] w fun e w' => e = .returned (.slice none 0 0) ∧ Below w.heap.size w w' := by
  have b0 : Below w.heap.size w w := Below.refl _ _
  go_enter Try.func22, Try.ntmps22
  go_wp2_with fail
  go_ret
  exact ⟨rfl, b0⟩
set_option maxRecDepth 100000 in
set_option maxHeartbeats 16000000 in
theorem nil_learn (w : World) (vid a : Nat) (port : Int) : Calls Try.prog 20 #[.pointer none, kyV vid a, .int .i64 port] w fun e w' => e = .returned (.tuple #[.agg enNilA, .bool false]) ∧ Below w.heap.size w w' := by
  obtain ⟨x, hx⟩ : ∃ x : En, x = ⟨vid, a, port, 0⟩ := ⟨_, rfl⟩
  have hz := zero49
  obtain ⟨g, hg⟩ : ∃ g, g = w.heap.size := ⟨_, rfl⟩
  obtain ⟨w1, hw1⟩ : ∃ w1, w1 = (w.alloc (.cells (kyA vid a) 36)).alloc (.cells enNilA 49) := ⟨_, rfl⟩
  obtain ⟨w2, hw2⟩ : ∃ w2, w2 = w1.alloc (.cells (enA x) 49) := ⟨_, rfl⟩
  have hb1 : Below w.heap.size w w1 := by rw [hw1]; exact ((Below.refl w.heap.size w).alloc (Nat.le_refl _) _).alloc (by simp) _
  have k4 : Blk w1 g (kyA vid a) 36 := by rw [hw1, hg]; exact (Blk.new _ _ _).alloc _
  have k6 : Blk w1 (g + 1) enNilA 49 := by
    rw [hw1, hg]
    have := Blk.new (w.alloc (.cells (kyA vid a) 36)) enNilA 49
    simpa using this
  have hb2 : Below w.heap.size w w2 := by rw [hw2]; exact hb1.alloc hb1.size _
  have K6 := Lib.hid (show Blk w2 (g + 1) enNilA 49 by rw [hw2]; exact k6.alloc _)
  have HB2 := Lib.hid hb2
  have HG := Lib.hid hg
  have HW1 := Lib.hid hw1
  have HW2 := Lib.hid (show w1.alloc (.cells (enA ⟨vid, a, port, 0⟩) 49) = w2 by rw [hw2, hx])
  have K4 := Lib.hid k4
  have SZ7 := Lib.hid kySize9
  have SZ9 := Lib.hid enSize49
  have XN := Lib.hid (show (enNilA).all (·.oneCell') = true by simp [Value.oneCell'])
  clear hx hg hw1 hw2 hb1 k4 k6 hb2
  go_enter Try.func20, Try.ntmps20
  go_upto_region 1 with fail
  rw [← HW1.out, ← HG.out]
  go_upto_region 2 with (refine wpList_load_row rfl 36 _ rfl g rfl 36 _ (0, 0) _ K4.out Try.underlying36 rfl SZ7.out ?_)
  rw [HW2.out]
  go_wp2_with (refine wpList_store_row rfl 49 _ _ rfl (g + 1) enNilA rfl rfl 49 enNilA K6.out SZ9.out rfl XN.out ?_)
  refine bodyPost_ret (v := .tuple #[.agg enNilA, .bool false]) (results_row_tmp Try.results20 _ _ (g + 1) 49 enNilA _ _ rfl rfl (K6.out.row _) Try.underlying49 rfl enSize49) rfl ⟨rfl, ?_⟩
  exact below_setRow HB2.out (by have := HG.out; omega) _
end Go.Proofs.Ytilklfmcdgggfaa
end
section
namespace Go.Proofs.Ytilklfmcdgggfaa
open Go.RowKit
set_option linter.unusedSimpArgs false
set_option linter.unusedVariables false

/-- The table alone. -/
structure One9 (w0 : World) (b A B : Nat) (mo li : Int) (l : List En) (w : World) : Prop where
  tab : TF w b A B mo li l
  low : w0.heap.size ≤ A ∧ A ≤ B ∧ B ≤ w.heap.size
  below : Below w0.heap.size w0 w
variable {w0 w w' : World} {b A B : Nat} {mo li : Int} {l l' : List En}
theorem One9.next (h : One9 w0 b A B mo li l w) (hb : Below w.heap.size w w') : One9 w0 b A B mo li l w' :=
  ⟨h.tab.keep (fun k _ hk => hb.block k (by have := h.low; omega)), ⟨h.low.1, h.low.2.1, by have := h.low; have := hb.size; omega⟩, h.below.trans (hb.mono (by have := h.low; omega))⟩
theorem One9.after (h : One9 w0 b A B mo li l w) (ht : TF w' b A B mo li l') (hk : KeptO A B w w') : One9 w0 b A B mo li l' w' := by
  have h1 := h.low
  have h2 := hk.size
  exact ⟨ht, ⟨h1.1, h1.2.1, by omega⟩, h.below.trans ((hk.below (by omega)).mono h1.1)⟩
theorem One9.start {w1 w2 : World} (hb1 : Below w0.heap.size w0 w1) (ht : TF w2 b w1.heap.size w2.heap.size mo li l) (hb2 : Below w1.heap.size w1 w2) : One9 w0 b w1.heap.size w2.heap.size mo li l w2 :=
  ⟨ht, ⟨hb1.size, hb2.size, Nat.le_refl _⟩, hb1.trans (hb2.mono hb1.size)⟩

theorem k7_cells {W : World} {c : Nat} {c0 c1 c2 c3 c4 c5 c6 : Value} (h : Blk W c #[c0, c1, c2, c3, c4, c5, c6] 36) :
    W.cell? ⟨c, 0, none⟩ = some c0 ∧ W.cell? ⟨c, 1, none⟩ = some c1 ∧ W.cell? ⟨c, 2, none⟩ = some c2 ∧ W.cell? ⟨c, 3, none⟩ = some c3 ∧ W.cell? ⟨c, 4, none⟩ = some c4 ∧ W.cell? ⟨c, 5, none⟩ = some c5 ∧ W.cell? ⟨c, 6, none⟩ = some c6 :=
  ⟨h.cell 0, h.cell 1, h.cell 2, h.cell 3, h.cell 4, h.cell 5, h.cell 6⟩
theorem c9_cells {W : World} {c : Nat} {c0 c1 c2 c3 c4 c5 c6 c7 c8 : Value} (h : Blk W c #[c0, c1, c2, c3, c4, c5, c6, c7, c8] 49) :
    W.cell? ⟨c, 0, none⟩ = some c0 ∧ W.cell? ⟨c, 1, none⟩ = some c1 ∧ W.cell? ⟨c, 2, none⟩ = some c2 ∧ W.cell? ⟨c, 3, none⟩ = some c3 ∧ W.cell? ⟨c, 4, none⟩ = some c4 ∧ W.cell? ⟨c, 5, none⟩ = some c5 ∧ W.cell? ⟨c, 6, none⟩ = some c6 ∧ W.cell? ⟨c, 7, none⟩ = some c7 ∧ W.cell? ⟨c, 8, none⟩ = some c8 :=
  ⟨h.cell 0, h.cell 1, h.cell 2, h.cell 3, h.cell 4, h.cell 5, h.cell 6, h.cell 7, h.cell 8⟩

theorem s9a : clampD 64 1 = 1 := by decide
theorem s9b : clampD 1000 9 = 9 := by decide
theorem s9c {l' : List En} {gv : Array Value} {full : Bool} (h : LearnR 1 9 [] ⟨1, 2, 3, 0⟩ l' gv full) : l' = [⟨1, 2, 3, 0⟩] := by
  rcases h with ⟨h, -⟩ | ⟨-, -, rfl, -, -⟩ | ⟨-, h, -⟩
  · exact absurd h (by decide)
  · rfl
  · exact absurd h (by decide)
theorem s9d {l' : List En} {gv : Array Value} {full : Bool} (h : LearnR 1 9 [⟨1, 2, 3, 0⟩] ⟨1, 4, 5, 0⟩ l' gv full) : l' = [⟨1, 4, 5, 0⟩] ∧ gv = enA ⟨1, 2, 3, 0⟩ ∧ full = true := by
  rcases h with ⟨h, -⟩ | ⟨-, h, -⟩ | ⟨-, -, z, ⟨hz, -⟩, rfl, rfl, rfl⟩
  · exact absurd h (by decide)
  · exact absurd h (by decide)
  · have : z = ⟨1, 2, 3, 0⟩ := by simpa using hz
    subst this
    exact ⟨rfl, rfl, rfl⟩
theorem s9e {e : Ending} (h : FindR [⟨1, 4, 5, 0⟩] (keyN 1 4) e) : e = .returned (.tuple #[.int .i64 5, .bool true]) := by
  have hc : atK enK (keyN 1 4) [⟨1, 4, 5, 0⟩] = 0 := by decide
  rcases h with ⟨h, -⟩ | ⟨k, x, h1, h2, rfl⟩
  · rw [hc] at h; cases h
  · rw [hc] at h1
    have hk0 : k = 0 := by omega
    subst hk0
    have hx : x = ⟨1, 4, 5, 0⟩ := (Option.some.inj h2).symm
    subst hx
    rfl

set_option maxRecDepth 100000 in
set_option maxHeartbeats 8000000 in
theorem speaks9_any (w : World) : Calls Try.prog 8 #[] w fun e w' => e = .returned (.bool true) ∧ Below w.heap.size w w' := by
  go_enter Try.func8, Try.ntmps8
  go_upto_region 2 with (go_at_call 9; refine (new_tf _ _ _).mono ?_; rintro e w1 ⟨b, rfl, ht, hb1⟩; rw [s9a, s9b] at ht)
  have O1 := Lib.hid (One9.start (Below.refl w.heap.size w) ht hb1)
  generalize w.heap.size = A at O1
  have HB1 := Lib.hid hb1
  clear ht hb1
  generalize hB : w1.heap.size = B at O1
  have HB := Lib.hid hB
  clear hB
  go_upto_region 3 with (go_at_call 26; first
    | (refine (fromInt_any 2 _).mono ?_; rintro e w2 ⟨rfl, hb2⟩; have O2 := Lib.hid (O1.out.next hb2))
    | (refine (fromInt_any 4 _).mono ?_; rintro e w3 ⟨rfl, hb3⟩; have O3 := Lib.hid (O2.out.next hb3)))
  obtain ⟨ka, hka⟩ : ∃ ka : Array Value, ka = #[.int .u16 1, .int .u8 (byteF 2 0 : Nat), .int .u8 (byteF 2 1 : Nat), .int .u8 (byteF 2 2 : Nat), .int .u8 (byteF 2 3 : Nat), .int .u8 (byteF 2 4 : Nat), .int .u8 (byteF 2 5 : Nat)] := ⟨_, rfl⟩
  obtain ⟨kb, hkb⟩ : ∃ kb : Array Value, kb = #[.int .u16 1, .int .u8 (byteF 4 0 : Nat), .int .u8 (byteF 4 1 : Nat), .int .u8 (byteF 4 2 : Nat), .int .u8 (byteF 4 3 : Nat), .int .u8 (byteF 4 4 : Nat), .int .u8 (byteF 4 5 : Nat)] := ⟨_, rfl⟩
  have HKA := Lib.hid hka
  have HKB := Lib.hid hkb
  obtain ⟨W3, hW3⟩ : ∃ W3, W3 = w3.alloc (.cells ka 36) := ⟨_, rfl⟩
  obtain ⟨W4, hW4⟩ : ∃ W4, W4 = W3.alloc (.cells kb 36) := ⟨_, rfl⟩
  have b3 : Below w3.heap.size w3 W3 := by rw [hW3]; exact (Below.refl _ _).alloc (Nat.le_refl _) _
  have b4 : Below W3.heap.size W3 W4 := by rw [hW4]; exact (Below.refl _ _).alloc (Nat.le_refl _) _
  have O4 := Lib.hid ((O3.out.next b3).next b4)
  have k3 : Blk W3 w3.heap.size ka 36 := by rw [hW3]; exact Blk.new _ _ _
  have k4 : Blk W4 w3.heap.size ka 36 := k3.below b4 k3.lt
  have k5 : Blk W4 W3.heap.size kb 36 := by rw [hW4]; exact Blk.new _ _ _
  have hz3 : W3.heap.size = w3.heap.size + 1 := by rw [hW3]; simp
  have hcB : B ≤ w3.heap.size := O3.out.low.2.2
  rw [hz3] at k5
  obtain ⟨c, hc⟩ : ∃ c, c = w3.heap.size := ⟨_, rfl⟩
  rw [← hc] at k4 k5 hcB hz3
  have HC := Lib.hid hc
  have HZ3 := Lib.hid hz3
  have HE3 := Lib.hid (hka ▸ hW3)
  have HE4 := Lib.hid (hkb ▸ hW4)
  have HCB := Lib.hid hcB
  have K4 := Lib.hid k4
  have K5 := Lib.hid k5
  rw [hka] at k4
  rw [hkb] at k5
  clear hW3 hW4 b3 b4 k3 hz3 hc hcB hb2 hb3 hka hkb
  rw [← HE3.out, ← HE4.out, ← HC.out]
  obtain ⟨q0, q1, q2, q3, q4, q5, q6⟩ := k7_cells k4
  obtain ⟨r0, r1, r2, r3, r4, r5, r6⟩ := k7_cells k5
  clear k4 k5
  go_upto_region 4 with (go_at_call 20; refine (learn_tf 1 2 3 (by omega) (by omega) O4.out.tab O4.out.low.2.1 O4.out.low.2.2).mono ?_; rintro e w4 ⟨l1, gv1, full1, hl1, rfl, ht1, hk1⟩)
  rw [s9c hl1] at ht1
  have O5 := Lib.hid (O4.out.after ht1 hk1)
  have K6 := Lib.hid (hk1.blk K4.out (.inr HCB.out))
  have K7 := Lib.hid (hk1.blk K5.out (.inr (Nat.le_succ_of_le HCB.out)))
  clear ht1 hk1 hl1 q0 q1 q2 q3 q4 q5 q6 r0 r1 r2 r3 r4 r5 r6
  have k6 := K6.out
  have k7 := K7.out
  rw [HKA.out] at k6
  rw [HKB.out] at k7
  obtain ⟨q0, q1, q2, q3, q4, q5, q6⟩ := k7_cells k6
  obtain ⟨r0, r1, r2, r3, r4, r5, r6⟩ := k7_cells k7
  clear k6 k7
  go_upto_region 5 with (go_at_call 20; refine (learn_tf 1 4 5 (by omega) (by omega) O5.out.tab O5.out.low.2.1 O5.out.low.2.2).mono ?_; rintro e w5 ⟨l2, gv2, full2, hl2, rfl, ht2, hk2⟩; rw [(s9d hl2).2.1, (s9d hl2).2.2])
  rw [(s9d hl2).1] at ht2
  have O6 := Lib.hid (O5.out.after ht2 hk2)
  have K8 := Lib.hid (hk2.blk K6.out (.inr HCB.out))
  have K9 := Lib.hid (hk2.blk K7.out (.inr (Nat.le_succ_of_le HCB.out)))
  clear ht2 hk2 hl2 q0 q1 q2 q3 q4 q5 q6 r0 r1 r2 r3 r4 r5 r6
  obtain ⟨W6, hW6⟩ : ∃ W6, W6 = w5.alloc (.cells #[.int .u16 1, .int .u8 (byteF 2 0 : Nat), .int .u8 (byteF 2 1 : Nat), .int .u8 (byteF 2 2 : Nat), .int .u8 (byteF 2 3 : Nat), .int .u8 (byteF 2 4 : Nat), .int .u8 (byteF 2 5 : Nat), .int .i64 3, .int .i64 0] 49) := ⟨_, rfl⟩
  have b6 : Below w5.heap.size w5 W6 := by rw [hW6]; exact (Below.refl _ _).alloc (Nat.le_refl _) _
  have O7 := Lib.hid (O6.out.next b6)
  have k6 := K8.out.below b6 K8.out.lt
  have K10 := Lib.hid k6
  have k7 := K9.out.below b6 K9.out.lt
  have K11 := Lib.hid k7
  have KG := Lib.hid (show Blk W6 w5.heap.size #[.int .u16 1, .int .u8 (byteF 2 0 : Nat), .int .u8 (byteF 2 1 : Nat), .int .u8 (byteF 2 2 : Nat), .int .u8 (byteF 2 3 : Nat), .int .u8 (byteF 2 4 : Nat), .int .u8 (byteF 2 5 : Nat), .int .i64 3, .int .i64 0] 49 by rw [hW6]; exact Blk.new _ _ _)
  rw [← hW6]
  clear hW6 b6
  generalize w5.heap.size = d at *
  rw [HKA.out] at k6
  rw [HKB.out] at k7
  obtain ⟨q0, q1, q2, q3, q4, q5, q6⟩ := k7_cells k6
  obtain ⟨r0, r1, r2, r3, r4, r5, r6⟩ := k7_cells k7
  clear k6 k7
  go_upto_region 6 with (go_at_call 18; refine (find_tf 1 4 (by omega) O7.out.tab).mono ?_; rintro e w7 ⟨hb7, hf7⟩; rw [s9e hf7])
  have O8 := Lib.hid (O7.out.next hb7)
  have k6 := K10.out.below hb7 K10.out.lt
  have kg := KG.out.below hb7 KG.out.lt
  clear hb7 hf7 q0 q1 q2 q3 q4 q5 q6 r0 r1 r2 r3 r4 r5 r6
  rw [HKA.out] at k6
  obtain ⟨q0, q1, q2, q3, q4, q5, q6⟩ := k7_cells k6
  obtain ⟨g0, g1, g2, g3, g4, g5, g6, g7, g8⟩ := c9_cells kg
  have heq : ∀ W : World, (Op.equalIn 10000 36 (.agg #[.int .u16 1, .int .u8 (byteF 2 0 : Nat), .int .u8 (byteF 2 1 : Nat), .int .u8 (byteF 2 2 : Nat), .int .u8 (byteF 2 3 : Nat), .int .u8 (byteF 2 4 : Nat), .int .u8 (byteF 2 5 : Nat)]) (.agg #[.int .u16 1, .int .u8 (byteF 2 0 : Nat), .int .u8 (byteF 2 1 : Nat), .int .u8 (byteF 2 2 : Nat), .int .u8 (byteF 2 3 : Nat), .int .u8 (byteF 2 4 : Nat), .int .u8 (byteF 2 5 : Nat)])).run Try.prog W = .ok true W := fun W => by
    have := ky_eq 1 1 (byteF 2) (byteF 2) W
    rw [show (decide (1 = 1) && eqMac (byteF 2) (byteF 2)) = true by decide] at this
    exact this
  clear k6 kg
  go_wp2_with (go_at_call 22; refine (list22 O8.out.tab (by decide)).mono ?_; rintro e w8 ⟨v8, rfl, hs8, hb8⟩; obtain ⟨A8, c8, rfl, -⟩ := src_rows enC_len (by decide) hs8; have O9 := Lib.hid (O8.out.next hb8))
  go_ret
  exact ⟨rfl, O9.out.below⟩
end Go.Proofs.Ytilklfmcdgggfaa
end
section
namespace Go.Proofs.Ytilklfmcdgggfaa
set_option linter.unusedVariables false
set_option linter.unusedSimpArgs false
open Go.RowKit

theorem TF.sorted {w : World} {b A B : Nat} {mo li : Int} {l : List En} (h : TF w b A B mo li l) : l.Pairwise (fun a b => enK a < enK b) ∧ ∀ x ∈ l, enOk x := by
  obtain ⟨mb, L, h1, h2, h3, h4, h5, h6, h7⟩ := h
  exact ⟨h6.1, h7⟩
theorem pair_eq {l : List En} (hs : l.Pairwise (fun a b => enK a < enK b)) {x y : En} (hx : x ∈ l) (hy : y ∈ l) (e : enK x = enK y) : x = y := by
  obtain ⟨i, hi, rfl⟩ := List.mem_iff_getElem.1 hx
  obtain ⟨j, hj, rfl⟩ := List.mem_iff_getElem.1 hy
  have := pairK_inj (key := enK) hs (List.getElem?_eq_getElem hi) (List.getElem?_eq_getElem hj) e
  subst this
  rfl
/-- One that is there is found. -/
theorem find_mem {l : List En} (hs : l.Pairwise (fun a b => enK a < enK b)) {x : En} (hx : x ∈ l) {v : Nat} (hv : v = enK x) {e : Ending} (h : FindR l v e) : e = .returned (.tuple #[.int .i64 x.port, .bool true]) := by
  subst hv
  rcases h with ⟨h1, -⟩ | ⟨k, z, h1, h2, h3⟩
  · rcases atK_cases enK (enK x) l with ⟨-, h4⟩ | ⟨k, z, h4, -, -⟩
    · exact absurd rfl (h4 x hx)
    · rw [h4] at h1; omega
  · rcases atK_cases enK (enK x) l with ⟨h4, -⟩ | ⟨k', z', h4, h5, h6⟩
    · rw [h4] at h1; omega
    · have hk : k = k' := by rw [h1] at h4; omega
      subst hk
      rw [h2] at h5
      cases Option.some.inj h5
      rw [h3, pair_eq hs (List.mem_of_getElem? h2) hx h6]
/-- One that isn't is not. -/
theorem find_not {l : List En} {v : Nat} (hn : ∀ y ∈ l, enK y ≠ v) {e : Ending} (h : FindR l v e) : e = .returned (.tuple #[.int .i64 0, .bool false]) := by
  rcases h with ⟨-, h2⟩ | ⟨k, z, h1, h2, h3⟩
  · exact h2
  · rw [atK_none enK v l hn] at h1; omega
theorem mem_layK {l : List En} {x y : En} : y ∈ layK enK l x ↔ y = x ∨ y ∈ l := by
  unfold layK
  have e : l = l.take (posK enK (enK x) l) ++ l.drop (posK enK (enK x) l) := (List.take_append_drop _ _).symm
  generalize posK enK (enK x) l = k at e
  constructor
  · intro h
    simp only [List.mem_append, List.mem_cons, List.not_mem_nil, or_false] at h
    rcases h with (h | h) | h
    · exact .inr (List.mem_of_mem_take h)
    · exact .inl h
    · exact .inr (List.mem_of_mem_drop h)
  · rintro (rfl | h)
    · simp
    · rw [e] at h
      simp only [List.mem_append] at h
      simp only [List.mem_append, List.mem_cons, List.not_mem_nil, or_false]
      rcases h with h | h
      · exact .inl (.inl h)
      · exact .inr h
theorem mem_putD {l : List En} {x y : En} (h : y ∈ putD l x) : y = x ∨ y ∈ l := by
  unfold putD at h
  rcases mem_layK.1 h with h | h
  · exact .inl h
  · unfold cutK at h
    split at h
    · exact .inr h
    · exact .inr (List.mem_of_mem_eraseIdx h)
theorem putD_mem (l : List En) (x : En) : x ∈ putD l x := mem_layK.2 (.inl rfl)
theorem mem_cutK {l : List En} {v : Nat} {y : En} (h : y ∈ cutK enK v l) : y ∈ l := by
  unfold cutK at h
  split at h
  · exact h
  · exact List.mem_of_mem_eraseIdx h
theorem cut_len {l : List En} {v : Nat} (h : 0 ≤ atK enK v l) : (cutK enK v l).length + 1 = l.length := by
  rcases atK_cases enK v l with ⟨h1, -⟩ | ⟨k, z, h1, h2, h3⟩
  · omega
  · unfold cutK
    have hk := (List.getElem?_eq_some_iff.1 h2).1
    rw [if_neg (by omega), h1, List.length_eraseIdx_of_lt (by simpa using hk)]
    omega
theorem putD_len {l : List En} {x : En} {mo : Int} (hl : (l.length : Int) ≤ mo) (h : (decide (0 ≤ atK enK (enK x) l) || decide ((l.length : Int) < mo)) = true) : ((putD l x).length : Int) ≤ mo := by
  unfold putD
  rw [layK_len]
  rw [Bool.or_eq_true, decide_eq_true_eq, decide_eq_true_eq] at h
  by_cases c : 0 ≤ atK enK (enK x) l
  · have := cut_len c; omega
  · have := cutK_len enK (enK x) l; omega
theorem putC_len {l : List En} {x z : En} (hz : z ∈ l) : (putD (cutK enK (enK z) l) x).length ≤ l.length := by
  have h1 : 0 ≤ atK enK (enK z) l := by
    rcases atK_cases enK (enK z) l with ⟨-, h⟩ | ⟨k, y, h, -, -⟩
    · exact absurd rfl (h z hz)
    · omega
  have := cut_len h1
  have := cutK_len enK (enK x) (cutK enK (enK z) l)
  unfold putD
  rw [layK_len]
  omega

/-- What is kept: all are as old as this, none is of a group, there is room. -/
structure KpI (mo age : Int) (l : List En) : Prop where
  age : ∀ x ∈ l, x.age = age
  even : ∀ x ∈ l, byteF x.mac 0 % 2 = 0
  few : (l.length : Int) ≤ mo
theorem KpI.nil {mo : Int} (h : 0 ≤ mo) (g : Int) : KpI mo g [] := ⟨by simp, by simp, by simpa using h⟩
theorem KpI.put {mo : Int} {l : List En} {x : En} (h : KpI mo 0 l) (hx : x.age = 0) (he : byteF x.mac 0 % 2 = 0) {l' : List En} (hm : ∀ y ∈ l', y = x ∨ y ∈ l) (hl : (l'.length : Int) ≤ mo) : KpI mo 0 l' :=
  ⟨fun y hy => (hm y hy).elim (fun q => q ▸ hx) (h.age y), fun y hy => (hm y hy).elim (fun q => q ▸ he) (h.even y), hl⟩
/-- What learning leaves. -/
theorem KpI.learn {mo li : Int} {l l' : List En} {vid a : Nat} {port : Int} {gv : Array Value} {full : Bool} (h : KpI mo 0 l) (hli : 1 ≤ li) (hp : 1 ≤ port ∧ port ≤ 16) (hr : LearnR mo li l ⟨vid, a, port, 0⟩ l' gv full) :
    KpI mo 0 l' ∧ (byteF a 0 % 2 = 1 → l' = l) ∧ (byteF a 0 % 2 = 0 → (⟨vid, a, port, 0⟩ : En) ∈ l') := by
  have ht : takesB li ⟨vid, a, port, 0⟩ = !decide (byteF a 0 % 2 = 1) := by
    unfold takesB
    simp only
    rw [decide_eq_true hp.1, decide_eq_true hp.2, decide_eq_true (show (0 : Int) ≤ 0 by omega), decide_eq_true (show (0 : Int) < li by omega)]
    simp
  have hodd : byteF a 0 % 2 = 1 → takesB li ⟨vid, a, port, 0⟩ = false := fun h => by rw [ht, decide_eq_true h]; rfl
  have heven : takesB li ⟨vid, a, port, 0⟩ = true → byteF a 0 % 2 = 0 := fun h => by
    rw [ht, Bool.not_eq_true', decide_eq_false_iff_not] at h
    omega
  rcases hr with ⟨h1, rfl, -⟩ | ⟨h1, h2, rfl, -⟩ | ⟨h1, h2, z, hz, rfl, -⟩
  · refine ⟨h, fun _ => rfl, fun h3 => ?_⟩
    rw [ht, decide_eq_false (by omega)] at h1
    cases h1
  · exact ⟨h.put (x := ⟨vid, a, port, 0⟩) rfl (heven h1) (fun y hy => mem_putD hy) (putD_len h.few h2), fun h3 => absurd h1 (by rw [hodd h3]; decide), fun _ => putD_mem _ _⟩
  · refine ⟨h.put (x := ⟨vid, a, port, 0⟩) rfl (heven h1) (fun y hy => ?_) ?_, fun h3 => absurd h1 (by rw [hodd h3]; decide), fun _ => putD_mem _ _⟩
    · rcases mem_putD hy with h4 | h4
      · exact .inl h4
      · exact .inr (mem_cutK h4)
    · have := putC_len (x := ⟨vid, a, port, 0⟩) hz.1
      have := h.few
      omega
/-- Of a group's address none is there. -/
theorem KpI.group {mo g : Int} {l : List En} (h : KpI mo g l) (hok : ∀ x ∈ l, enOk x) {vid a : Nat} (ha : a < 281474976710656) (ho : byteF a 0 % 2 = 1) : ∀ y ∈ l, enK y ≠ keyN vid a := fun y hy e => by
  have := (keyN_eq (hok y hy) ha).1 e
  have h1 := h.even y hy
  rw [this.2] at h1
  omega
/-- A tick. -/
theorem KpI.tick {mo g li : Int} {l : List En} (h : KpI mo g l) (hg : g + 1 < li) : (l.map upE).filter (fun z => !decide (li ≤ z.age)) = l.map upE ∧ KpI mo (g + 1) (l.map upE) := by
  refine ⟨?_, ?_, ?_, ?_⟩
  · rw [List.filter_eq_self]
    intro z hz
    obtain ⟨y, hy, rfl⟩ := List.mem_map.1 hz
    have := h.age y hy
    show (!decide (li ≤ y.age + 1)) = true
    rw [decide_eq_false (by omega)]
    rfl
  · intro z hz
    obtain ⟨y, hy, rfl⟩ := List.mem_map.1 hz
    show y.age + 1 = _
    rw [h.age y hy]
  · intro z hz
    obtain ⟨y, hy, rfl⟩ := List.mem_map.1 hz
    exact h.even y hy
  · rw [List.length_map]; exact h.few
theorem KpI.last {mo g li : Int} {l : List En} (h : KpI mo g l) (hg : g + 1 = li) : (l.map upE).filter (fun z => !decide (li ≤ z.age)) = [] := by
  rw [List.filter_eq_nil_iff]
  intro z hz
  obtain ⟨y, hy, rfl⟩ := List.mem_map.1 hz
  have := h.age y hy
  show ¬ (!decide (li ≤ y.age + 1)) = true
  rw [decide_eq_true (by omega)]
  decide
end Go.Proofs.Ytilklfmcdgggfaa
end
section
namespace Go.Proofs.Ytilklfmcdgggfaa
open Go.RowKit
set_option linter.unusedSimpArgs false
set_option linter.unusedVariables false

abbrev acNil9 : Array Value := #[.int .u8 0, .int .u16 0, .int .u8 0, .int .u8 0, .int .u8 0, .int .u8 0, .int .u8 0, .int .u8 0, .int .i64 0, .int .i64 0]
theorem acSize9 : (Try.prog.info? 33).map (·.size) = some 10 := by kernel_rfl

theorem wrap64_small (x : Int) (h : -100 ≤ x) (h2 : x ≤ 100) : wrap64 x = x := by unfold wrap64; omega
theorem port_in (p : Int) : ∃ q, wrap64 (1 + (wrap64 (p.tmod 16 + 16)).tmod 16) = q ∧ 1 ≤ q ∧ q ≤ 16 := by
  have h : -16 < p.tmod 16 ∧ p.tmod 16 < 16 := by
    refine ⟨?_, Int.tmod_lt_of_pos _ (by omega)⟩
    have h1 := Int.tmod_lt_of_pos (-p) (show (0 : Int) < 16 by omega)
    rw [Int.neg_tmod] at h1
    omega
  rw [wrap64_small (p.tmod 16 + 16) (by omega) (by omega), Int.tmod_eq_emod_of_nonneg (by omega), wrap64_small _ (by omega) (by omega)]
  exact ⟨_, rfl, by omega, by omega⟩

/-- What is learnt last, by its age. -/
def lastE (g : Int) : En := ⟨7, 12, 3, g⟩
/-- While it ticks. -/
structure KpT (w0 : World) (b A B : Nat) (mo li : Int) (d : Nat) (g : Int) (w : World) : Prop where
  all : ∃ l, One9 w0 b A B mo li l w ∧ KpI mo g l ∧ lastE g ∈ l
  key : Blk w d #[.int .u16 7, .int .u8 (byteF 12 0 : Nat), .int .u8 (byteF 12 1 : Nat), .int .u8 (byteF 12 2 : Nat), .int .u8 (byteF 12 3 : Nat), .int .u8 (byteF 12 4 : Nat), .int .u8 (byteF 12 5 : Nat)] 36
  low : B ≤ d
theorem KpT.next {w0 w w' : World} {b A B d : Nat} {mo li g : Int} (h : KpT w0 b A B mo li d g w) (hb : Below w.heap.size w w') : KpT w0 b A B mo li d g w' := by
  obtain ⟨l, h1, h2, h3⟩ := h.all
  exact ⟨⟨l, h1.next hb, h2, h3⟩, h.key.below hb h.key.lt, h.low⟩
theorem KpT.below {w0 w : World} {b A B d : Nat} {mo li g : Int} (h : KpT w0 b A B mo li d g w) : Below w0.heap.size w0 w := by
  obtain ⟨l, h1, h2, h3⟩ := h.all
  exact h1.below
theorem KpT.tick {w0 w : World} {b A B d : Nat} {mo li g : Int} (h : KpT w0 b A B mo li d g w) (hmo : mo ≤ 64) (hg0 : 0 ≤ g) (hg : g + 1 < li) (hli : li ≤ 20) :
    Calls Try.prog 11 #[.pointer (some ⟨b, 0, none⟩)] w fun e w' => (∃ n, e = .returned (.int .i64 n)) ∧ KpT w0 b A B mo li d (g + 1) w' := by
  obtain ⟨l, h1, h2, h3⟩ := h.all
  have hf := h2.few
  refine (tick_tf h1.tab h1.low.2.2 (by omega) (fun x hx => by have := h2.age x hx; omega)).mono fun e w' ⟨q1, q2, q3⟩ => ⟨⟨_, q1⟩, ?_⟩
  rw [(h2.tick hg).1] at q2
  exact ⟨⟨_, h1.after q2 q3, (h2.tick hg).2, List.mem_map.2 ⟨_, h3, rfl⟩⟩, q3.blk h.key (.inr h.low), h.low⟩
theorem KpT.last {w0 w : World} {b A B d : Nat} {mo li g : Int} (h : KpT w0 b A B mo li d g w) (hmo : mo ≤ 64) (hg0 : 0 ≤ g) (hg : g + 1 = li) (hli : li ≤ 20) :
    Calls Try.prog 11 #[.pointer (some ⟨b, 0, none⟩)] w fun e w' => (∃ n, e = .returned (.int .i64 n)) ∧ One9 w0 b A B mo li [] w' ∧
      Blk w' d #[.int .u16 7, .int .u8 (byteF 12 0 : Nat), .int .u8 (byteF 12 1 : Nat), .int .u8 (byteF 12 2 : Nat), .int .u8 (byteF 12 3 : Nat), .int .u8 (byteF 12 4 : Nat), .int .u8 (byteF 12 5 : Nat)] 36 := by
  obtain ⟨l, h1, h2, h3⟩ := h.all
  have hf := h2.few
  refine (tick_tf h1.tab h1.low.2.2 (by omega) (fun x hx => by have := h2.age x hx; omega)).mono fun e w' ⟨q1, q2, q3⟩ => ⟨⟨_, q1⟩, ?_⟩
  rw [h2.last hg] at q2
  exact ⟨h1.after q2 q3, q3.blk h.key (.inr h.low)⟩
theorem KpT.find {w0 w : World} {b A B d : Nat} {mo li g : Int} (h : KpT w0 b A B mo li d g w) :
    Calls Try.prog 18 #[.pointer (some ⟨b, 0, none⟩), .agg #[.int .u16 7, .int .u8 (byteF 12 0 : Nat), .int .u8 (byteF 12 1 : Nat), .int .u8 (byteF 12 2 : Nat), .int .u8 (byteF 12 3 : Nat), .int .u8 (byteF 12 4 : Nat), .int .u8 (byteF 12 5 : Nat)]] w
      fun e w' => e = .returned (.tuple #[.int .i64 3, .bool true]) ∧ KpT w0 b A B mo li d g w' := by
  obtain ⟨l, h1, h2, h3⟩ := h.all
  exact (find_tf 7 12 (by omega) h1.tab).mono fun e w' ⟨q1, q2⟩ => ⟨find_mem h1.tab.sorted.1 h3 rfl q2, h.next q1⟩

set_option maxHeartbeats 16000000 in
set_option maxRecDepth 100000 in
theorem kept_walk (most live : Nat) (hm : most < 256) (hv : live < 256) (a : Option Addr) (len cap : Nat) (acts : List Ac9) (w0 : World) (h : IsArg33 w0 a len cap acts) :
    Calls Try.prog 5 #[.int .u8 (most : Nat), .int .u8 (live : Nat), .slice a len cap] w0 fun e w' => e = .returned (.bool true) ∧ Below w0.heap.size w0 w' := by
  obtain ⟨hl, hr, hok, hc, hn⟩ := h
  have HL := Lib.hid hl
  have HR := Lib.hid hr
  have HOK := Lib.hid hok
  have hlc : (len : Int) ≤ 9223372036854775807 := by have := hc.1; have := hc.2; unfold maxLen at *; omega
  have HC := Lib.hid hc
  clear hl hr hok hc hn
  go_enter Try.func5, Try.ntmps5
  go_upto_region 4 with (go_at_call 8; refine (speaks9_any _).mono ?_; rintro e w1 ⟨rfl, hb1⟩)
  obtain ⟨mo, hmo⟩ : ∃ mo : Int, mo = 1 + (most : Int) % 64 := ⟨_, rfl⟩
  obtain ⟨li, hli⟩ : ∃ li : Int, li = 1 + (live : Int) % 20 := ⟨_, rfl⟩
  have MO := Lib.hid (show 1 ≤ mo ∧ mo ≤ 64 by omega)
  have LI := Lib.hid (show 1 ≤ li ∧ li ≤ 20 by omega)
  rw [← hmo, ← hli]
  have LIN := Lib.hid (show ∃ n : Nat, li = (n : Int) ∧ 1 ≤ n ∧ n ≤ 20 from ⟨li.toNat, by omega, by omega, by omega⟩)
  clear hmo hli hm hv
  go_upto_region 6 with (go_at_call 9; refine (new_tf _ _ _).mono ?_; rintro e w2 ⟨b, rfl, ht, hb2⟩; rw [show clampD 64 mo = mo by have := MO.out; unfold clampD; omega, show clampD 1000 li = li by have := LI.out; unfold clampD; omega] at ht)
  have O2 := Lib.hid (One9.start hb1 ht hb2)
  clear hb2 ht
  generalize w1.heap.size = A at O2
  generalize w2.heap.size = B at O2
  clear hb1
  go_loopw [10] (fun i wr => ∃ (k : Nat) (l : List En), k ≤ len ∧ k ≤ 60 ∧ i = .int .i64 k ∧ One9 w0 b A B mo li l wr ∧ KpI mo 0 l) (fun i _ => (60 - intOf i).toNat)
  case atStart => exact ⟨0, [], by omega, by omega, rfl, O2.out, KpI.nil (by have := MO.out; omega) 0⟩
  case round =>
    obtain ⟨k, l, hk, hk2, rfl, hI, hK⟩ := hrel
    have HI := Lib.hid hI
    have HK := Lib.hid hK
    clear hI hK O2
    by_cases hlt : k < len ∧ k < 60
    · obtain ⟨h1, h2⟩ := hlt
      obtain ⟨x, hx⟩ : ∃ x, acts[k]? = some x := ⟨_, List.getElem?_eq_getElem (show k < acts.length by rw [HL.out]; exact h1)⟩
      have HXO := Lib.hid (HOK.out x (List.mem_of_getElem? hx))
      rcases HR.out with hnil | ⟨ab, off, rfl, hab, hcells⟩
      · rw [hnil] at hx; simp at hx
      obtain ⟨arr, harr⟩ : ∃ arr, arr = acA9 x := ⟨_, rfl⟩
      have hrg := Lib.hid (show wr.rangeAt ab (off + k * 10) arr.toList by
        intro j u hu
        rw [harr] at hu
        have q := hcells k x hx j u hu
        rw [Nat.add_assoc, (HI.out.below).cell (p := ⟨ab, off + (k * 10 + j), none⟩) hab]
        exact q)
      have hz9 := Lib.hid (show (Try.prog.info? 33).map (·.size) = some arr.size by rw [harr]; exact acSize9)
      have hzz := Lib.hid (show acNil9.size = arr.size by rw [harr]; rfl)
      have hone := Lib.hid (show arr.all (·.oneCell') = true by rw [harr]; simp [Value.oneCell'])
      have HARR := Lib.hid harr
      have hkc : k ≤ cap := by have := HC.out.1; omega
      clear hcells hx harr
      have R0 := Lib.hid (show (wr.alloc (.cells acNil9 33)).heap[wr.heap.size]? = some (.cells acNil9 33 (0, 0)) from heap_alloc_new wr _)
      have K0 := Lib.hid (show Kn wr [(wr.heap.size, arr, 33)] ((wr.alloc (.cells acNil9 33)).setRow wr.heap.size arr) from (Kn.nil wr).laid arr acNil9 33)
      go_upto_region 9 with (first
        | (refine wpList_val (.agg arr) (by rfl) (run_loadRange 33 _ rfl ab (off + k * 10) rfl arr _ hrg.out Try.underlying33 rfl hz9.out) ?_)
        | (refine wpList_store_row rfl 33 _ _ rfl wr.heap.size arr rfl rfl 33 acNil9 R0.out hz9.out hzz.out hone.out ?_))
      obtain ⟨W1, hW1⟩ : ∃ W, W = (wr.alloc (.cells acNil9 33)).setRow wr.heap.size arr := ⟨_, rfl⟩
      rw [← hW1] at K0 ⊢
      have BK1 := Lib.hid (show Blk W1 wr.heap.size (acA9 x) 33 by have := K0.out.at 0 rfl; rw [HARR.out] at this; exact this)
      obtain ⟨c, hcc⟩ : ∃ c, wr.heap.size = c := ⟨_, rfl⟩
      have HCB := Lib.hid (show B ≤ c by rw [← hcc]; exact HI.out.low.2.2)
      have J1 := Lib.hid (HI.out.next K0.out.below)
      rw [hcc] at BK1 ⊢
      clear hW1 K0 R0 hrg hcc HI hz9 hzz hone HARR
      have hc0 : W1.cell? ⟨c, 0, none⟩ = (acA9 x)[0]? := BK1.out.cell 0
      simp only [acA9, List.getElem?_toArray, List.getElem?_cons_succ, List.getElem?_cons_zero] at hc0
      have hc1 : W1.cell? ⟨c, 1, none⟩ = (acA9 x)[1]? := BK1.out.cell 1
      simp only [acA9, List.getElem?_toArray, List.getElem?_cons_succ, List.getElem?_cons_zero] at hc1
      have hc2 : W1.cell? ⟨c, 2, none⟩ = (acA9 x)[2]? := BK1.out.cell 2
      simp only [acA9, List.getElem?_toArray, List.getElem?_cons_succ, List.getElem?_cons_zero] at hc2
      have hc3 : W1.cell? ⟨c, 3, none⟩ = (acA9 x)[3]? := BK1.out.cell 3
      simp only [acA9, List.getElem?_toArray, List.getElem?_cons_succ, List.getElem?_cons_zero] at hc3
      have hc4 : W1.cell? ⟨c, 4, none⟩ = (acA9 x)[4]? := BK1.out.cell 4
      simp only [acA9, List.getElem?_toArray, List.getElem?_cons_succ, List.getElem?_cons_zero] at hc4
      have hc5 : W1.cell? ⟨c, 5, none⟩ = (acA9 x)[5]? := BK1.out.cell 5
      simp only [acA9, List.getElem?_toArray, List.getElem?_cons_succ, List.getElem?_cons_zero] at hc5
      have hc6 : W1.cell? ⟨c, 6, none⟩ = (acA9 x)[6]? := BK1.out.cell 6
      simp only [acA9, List.getElem?_toArray, List.getElem?_cons_succ, List.getElem?_cons_zero] at hc6
      have hc7 : W1.cell? ⟨c, 7, none⟩ = (acA9 x)[7]? := BK1.out.cell 7
      simp only [acA9, List.getElem?_toArray, List.getElem?_cons_succ, List.getElem?_cons_zero] at hc7
      have hc8 : W1.cell? ⟨c, 8, none⟩ = (acA9 x)[8]? := BK1.out.cell 8
      simp only [acA9, List.getElem?_toArray, List.getElem?_cons_succ, List.getElem?_cons_zero] at hc8
      go_upto_region 10 with fail
      obtain ⟨port, hport, hp1, hp2⟩ := port_in x.port
      rw [hport]
      have HPO := Lib.hid (And.intro hp1 hp2)
      clear hport hp1 hp2
      go_upto_region 11 with fail
      obtain ⟨d, hdd⟩ : ∃ d, W1.heap.size = d := ⟨_, rfl⟩
      obtain ⟨W2, hW2⟩ : ∃ W, W = W1.alloc (.cells (kyA x.vid x.mac) 36) := ⟨_, rfl⟩
      have bW := (Below.refl W1.heap.size W1).alloc (Nat.le_refl _) (.cells (kyA x.vid x.mac) 36)
      rw [← hW2] at bW
      have KK := Lib.hid (show Blk W2 d (kyA x.vid x.mac) 36 by rw [← hdd, hW2]; exact Blk.new _ _ _)
      have J := Lib.hid (J1.out.next bW)
      have HDB := Lib.hid (show B ≤ d by rw [← hdd]; exact J1.out.low.2.2)
      rw [← hW2, hdd]
      clear hW2 hdd bW hc0 hc1 hc2 hc3 hc4 hc5 hc6 hc7 hc8 J1
      obtain ⟨q0, q1, q2, q3, q4, q5, q6⟩ := k7_cells KK.out
      go_upto_region 12 with (go_at_call 20; refine (learn_tf x.vid x.mac port HXO.out.2.2.1 MO.out.1 J.out.tab J.out.low.2.1 J.out.low.2.2).mono ?_; rintro e w4 ⟨l1, gv1, full1, hl1, rfl, ht1, hk1⟩)
      have J2 := Lib.hid (J.out.after ht1 hk1)
      have K2 := Lib.hid (hk1.blk KK.out (.inr HDB.out))
      have LK := Lib.hid (HK.out.learn LI.out.1 HPO.out hl1)
      clear ht1 hk1 hl1 q0 q1 q2 q3 q4 q5 q6
      obtain ⟨q0, q1, q2, q3, q4, q5, q6⟩ := k7_cells K2.out
      cases hg : decide (byteF x.mac 0 % 2 = 1) with
      | true =>
        have HG := Lib.hid (show ∀ W, Calls Try.prog 25 #[mac (byteF x.mac)] W fun e w' => e = .returned (.bool true) ∧ Below W.heap.size W w' from fun W => by rw [← hg]; exact group_any (byteF x.mac) W (byteF_six x.mac))
        have HFD := Lib.hid (show Calls Try.prog 18 #[.pointer (some ⟨b, 0, none⟩), kyV x.vid x.mac] w4 fun e w' => e = .returned (.tuple #[.int .i64 0, .bool false]) ∧ Below w4.heap.size w4 w' from
          (find_tf x.vid x.mac HXO.out.2.2.1 J2.out.tab).mono fun e w' ⟨h1, h2⟩ => ⟨find_not (LK.out.1.group J2.out.tab.sorted.2 HXO.out.2.2.1 (of_decide_eq_true hg)) h2, h1⟩)
        clear hg
        go_upto_region 13 with (go_at_call 18; with_reducible refine HFD.out.mono ?_; rintro e w5 ⟨rfl, hb5⟩)
        have J3 := Lib.hid (J2.out.next hb5)
        have K3 := Lib.hid (K2.out.below hb5 K2.out.lt)
        clear hb5 q0 q1 q2 q3 q4 q5 q6
        obtain ⟨q0, q1, q2, q3, q4, q5, q6⟩ := k7_cells K3.out
        obtain ⟨n, hn⟩ : ∃ n, l1.length = n := ⟨_, rfl⟩
        have HN := Lib.hid (show (n : Int) ≤ mo by rw [← hn]; exact LK.out.1.few)
        have HLS := Lib.hid (show ∀ W, Below w5.heap.size w5 W → Calls Try.prog 22 #[.pointer (some ⟨b, 0, none⟩)] W fun e w' => (∃ A c, e = .returned (.slice A n c)) ∧ One9 w0 b A B mo li l1 w' from fun W hW => by
          have J4 := J3.out.next hW
          refine (list22 J4.tab (by have := HN.out; have := MO.out; omega)).mono fun e w' ⟨v, he, hs, hb⟩ => ⟨?_, J4.next hb⟩
          obtain ⟨A', c', hv, -⟩ := src_rows enC_len (by omega) hs
          exact ⟨A', c', by rw [he, hv, hn]⟩)
        have hle : ¬ mo < (n : Int) := by have := HN.out; omega
        clear hn
        go_wp2_with (first
          | (go_at_call 25; with_reducible refine (HG.out w5).mono ?_; rintro e w6 ⟨rfl, hb6⟩; have B6 := Lib.hid hb6; clear hb6)
          | (go_at_call 22; with_reducible refine (HLS.out w6 B6.out).mono ?_; rintro e w7 ⟨⟨A7, c7, rfl⟩, hJ7⟩; have J7 := Lib.hid hJ7; clear hJ7))
        go_roundw
        case rel => exact ⟨k + 1, l1, by omega, by omega, by go_num, J7.out, LK.out.1⟩
        case measure => simp [intOf]; omega
      | false =>
        have HG := Lib.hid (show ∀ W, Calls Try.prog 25 #[mac (byteF x.mac)] W fun e w' => e = .returned (.bool false) ∧ Below W.heap.size W w' from fun W => by rw [← hg]; exact group_any (byteF x.mac) W (byteF_six x.mac))
        have HFD := Lib.hid (show Calls Try.prog 18 #[.pointer (some ⟨b, 0, none⟩), kyV x.vid x.mac] w4 fun e w' => e = .returned (.tuple #[.int .i64 port, .bool true]) ∧ Below w4.heap.size w4 w' from
          (find_tf x.vid x.mac HXO.out.2.2.1 J2.out.tab).mono fun e w' ⟨h1, h2⟩ => ⟨find_mem J2.out.tab.sorted.1 (LK.out.2.2 (by have := of_decide_eq_false hg; omega)) rfl h2, h1⟩)
        clear hg
        go_upto_region 13 with (go_at_call 18; with_reducible refine HFD.out.mono ?_; rintro e w5 ⟨rfl, hb5⟩)
        have J3 := Lib.hid (J2.out.next hb5)
        have K3 := Lib.hid (K2.out.below hb5 K2.out.lt)
        clear hb5 q0 q1 q2 q3 q4 q5 q6
        obtain ⟨q0, q1, q2, q3, q4, q5, q6⟩ := k7_cells K3.out
        obtain ⟨n, hn⟩ : ∃ n, l1.length = n := ⟨_, rfl⟩
        have HN := Lib.hid (show (n : Int) ≤ mo by rw [← hn]; exact LK.out.1.few)
        have HLS := Lib.hid (show ∀ W, Below w5.heap.size w5 W → Calls Try.prog 22 #[.pointer (some ⟨b, 0, none⟩)] W fun e w' => (∃ A c, e = .returned (.slice A n c)) ∧ One9 w0 b A B mo li l1 w' from fun W hW => by
          have J4 := J3.out.next hW
          refine (list22 J4.tab (by have := HN.out; have := MO.out; omega)).mono fun e w' ⟨v, he, hs, hb⟩ => ⟨?_, J4.next hb⟩
          obtain ⟨A', c', hv, -⟩ := src_rows enC_len (by omega) hs
          exact ⟨A', c', by rw [he, hv, hn]⟩)
        have hle : ¬ mo < (n : Int) := by have := HN.out; omega
        clear hn
        go_wp2_with (first
          | (go_at_call 25; with_reducible refine (HG.out w5).mono ?_; rintro e w6 ⟨rfl, hb6⟩; have B6 := Lib.hid hb6; clear hb6)
          | (go_at_call 22; with_reducible refine (HLS.out w6 B6.out).mono ?_; rintro e w7 ⟨⟨A7, c7, rfl⟩, hJ7⟩; have J7 := Lib.hid hJ7; clear hJ7))
        go_roundw
        case rel => exact ⟨k + 1, l1, by omega, by omega, by go_num, J7.out, LK.out.1⟩
        case measure => simp [intOf]; omega
    · have HE := Lib.hid (show ¬ (k : Int) < (len : Int) ∨ ((k : Int) < (len : Int) ∧ ¬ (k : Int) < 60) by omega)
      have HLC := Lib.hid hlc
      clear hlt hk hk2
      rcases HE.out with g1 | ⟨g1, g2⟩
      all_goals
        go_upto_region 15 with fail
        clear g1
        by_cases hz : len = 0
        · subst hz
          go_wp2_with fail
          go_ret
          exact ⟨rfl, HI.out.below⟩
        · have hz2 : ((len : Int) == 0) = false := by simpa using hz
          go_upto_region 17 with fail
          clear hz hz2
          have HFI := Lib.hid (show ∀ W, Calls Try.prog 26 #[.int .u64 12] W fun e w' => e = .returned (mac (byteF 12)) ∧ Below W.heap.size W w' from fun W => fromInt_any 12 W)
          go_upto_region 18 with (go_at_call 26; refine (HFI.out _).mono ?_; rintro e w3 ⟨rfl, hb3⟩)
          have J0 := Lib.hid (HI.out.next hb3)
          obtain ⟨d, hdd⟩ : ∃ d, w3.heap.size = d := ⟨_, rfl⟩
          obtain ⟨W4, hW4⟩ : ∃ W, W = w3.alloc (.cells #[.int .u16 7, .int .u8 (byteF 12 0 : Nat), .int .u8 (byteF 12 1 : Nat), .int .u8 (byteF 12 2 : Nat), .int .u8 (byteF 12 3 : Nat), .int .u8 (byteF 12 4 : Nat), .int .u8 (byteF 12 5 : Nat)] 36) := ⟨_, rfl⟩
          have b4 : Below w3.heap.size w3 W4 := by rw [hW4]; exact (Below.refl _ _).alloc (Nat.le_refl _) _
          have KK := Lib.hid (show Blk W4 d #[.int .u16 7, .int .u8 (byteF 12 0 : Nat), .int .u8 (byteF 12 1 : Nat), .int .u8 (byteF 12 2 : Nat), .int .u8 (byteF 12 3 : Nat), .int .u8 (byteF 12 4 : Nat), .int .u8 (byteF 12 5 : Nat)] 36 by rw [← hdd, hW4]; exact Blk.new _ _ _)
          have J := Lib.hid (J0.out.next b4)
          have HDB := Lib.hid (show B ≤ d by rw [← hdd]; exact J0.out.low.2.2)
          rw [← hW4, hdd]
          clear hW4 hdd b4 hb3 J0
          obtain ⟨q0, q1, q2, q3, q4, q5, q6⟩ := k7_cells KK.out
          go_upto_region 20 with (go_at_call 20; refine (learn_tf 7 12 3 (by omega) MO.out.1 J.out.tab J.out.low.2.1 J.out.low.2.2).mono ?_; rintro e w4 ⟨l1, gv1, full1, hl1, rfl, ht1, hk1⟩)
          have LK := Lib.hid (HK.out.learn LI.out.1 (by omega) hl1)
          have T0 := Lib.hid (show KpT w0 b A B mo li d 0 w4 from ⟨⟨l1, J.out.after ht1 hk1, LK.out.1, LK.out.2.2 (by decide)⟩, hk1.blk KK.out (.inr HDB.out), HDB.out⟩)
          clear ht1 hk1 hl1 q0 q1 q2 q3 q4 q5 q6 LK
          go_loopw [17] (fun i wr => ∃ j : Int, 1 ≤ j ∧ j ≤ li ∧ i = .int .i64 j ∧ KpT w0 b A B mo li d (j - 1) wr) (fun i _ => (20 - intOf i).toNat)
          case atStart => exact ⟨1, by omega, LI.out.1, rfl, T0.out⟩
          case round =>
            obtain ⟨j, hj1, hj2, rfl, hT⟩ := hrel
            have HT := Lib.hid hT
            clear hT
            by_cases hjl : j < li
            · have HTK := Lib.hid (HT.out.tick MO.out.2 (by omega) (by omega) LI.out.2)
              have hj20 : j < 20 := by have := LI.out.2; omega
              go_upto_region 23 with (go_at_call 11; refine HTK.out.mono ?_; rintro e w5 ⟨⟨n, rfl⟩, hT5⟩)
              have T5 := Lib.hid hT5
              clear hT5
              have FD := Lib.hid T5.out.find
              obtain ⟨q0, q1, q2, q3, q4, q5, q6⟩ := k7_cells T5.out.key
              go_upto_region 24 with (go_at_call 18; refine FD.out.mono ?_; rintro e w6 ⟨rfl, hT6⟩)
              have T6 := Lib.hid hT6
              clear hT6 q0 q1 q2 q3 q4 q5 q6
              go_wp2_with fail
              go_roundw
              case rel => exact ⟨j + 1, by omega, by omega, by go_num, by rw [show j + 1 - 1 = j - 1 + 1 by omega]; exact T6.out⟩
              case measure => simp [intOf]; omega
            · have hje : j = li := by omega
              subst hje
              have HTK := Lib.hid (HT.out.last MO.out.2 (by have := LI.out.1; omega) (by omega) LI.out.2)
              go_upto_region 27 with (go_at_call 11; refine HTK.out.mono ?_; rintro e w5 ⟨⟨n, rfl⟩, hO5, hK5⟩)
              have O5 := Lib.hid hO5
              have FD := Lib.hid (show Calls Try.prog 18 #[.pointer (some ⟨b, 0, none⟩), .agg #[.int .u16 7, .int .u8 (byteF 12 0 : Nat), .int .u8 (byteF 12 1 : Nat), .int .u8 (byteF 12 2 : Nat), .int .u8 (byteF 12 3 : Nat), .int .u8 (byteF 12 4 : Nat), .int .u8 (byteF 12 5 : Nat)]] w5 fun e w' => e = .returned (.tuple #[.int .i64 0, .bool false]) ∧ One9 w0 b A B mo j [] w' from
                (find_tf 7 12 (by omega) hO5.tab).mono fun e w' ⟨q1, q2⟩ => ⟨find_not (by simp) q2, hO5.next q1⟩)
              obtain ⟨q0, q1, q2, q3, q4, q5, q6⟩ := k7_cells hK5
              clear hO5 hK5
              go_upto_region 28 with (go_at_call 18; refine FD.out.mono ?_; rintro e w6 ⟨rfl, hO6⟩)
              have O6 := Lib.hid hO6
              clear hO6 q0 q1 q2 q3 q4 q5 q6
              have HLS := Lib.hid (show Calls Try.prog 22 #[.pointer (some ⟨b, 0, none⟩)] w6 fun e w' => (∃ A c, e = .returned (.slice A 0 c)) ∧ Below w0.heap.size w0 w' from by
                refine (list22 O6.out.tab (by simp)).mono fun e w' ⟨v, he, hs, hb⟩ => ⟨?_, (O6.out.next hb).below⟩
                obtain ⟨A', c', hv, -⟩ := src_rows enC_len (by omega) hs
                exact ⟨A', c', by rw [he, hv]; rfl⟩)
              go_wp2_with (go_at_call 22; refine HLS.out.mono ?_; rintro e w7 ⟨⟨A7, c7, rfl⟩, hb7⟩)
              go_ret
              exact ⟨rfl, hb7⟩
end Go.Proofs.Ytilklfmcdgggfaa
end
